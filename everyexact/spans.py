"""Spans: the integers from a low one to a high one, by strides."""

from everyexact.bounds import MAX_STEP
from everyexact.values import is_integer, is_number, is_row


def is_span(value):
    """Whether value is a triple (low, high, stride)."""
    if not is_row(value, 3):
        return False
    low, high, stride = value
    if not is_number(low) or not is_number(high) or not is_integer(stride):
        return False
    return low <= high and 1 <= stride <= MAX_STEP and (high - low) % stride == 0


def is_held(span, value):
    """Whether value is an integer that span holds."""
    low, high, stride = span
    return is_integer(value) and low <= value <= high and (value - low) % stride == 0
