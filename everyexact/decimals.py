"""Integers written in decimal, without noughts ahead of other figures."""

from everyexact.bounds import MAX_NUMBER


def is_decimal(text):
    """Whether text is that of an integer from 0 on, with no more figures than MAX_NUMBER has."""
    # Python reads other figures than 0 to 9, too, and raises an error of its own at thousands of them.
    if not text.isascii() or not text.isdigit() or len(text) > len(str(MAX_NUMBER)):
        return False
    return text == "0" or text[0] != "0"


def read_integer(text):
    """The integer, also below 0, of which this is the text; None if it is that of none with so few figures."""
    if text == "-0" or not is_decimal(text.removeprefix("-")):
        return None
    return int(text)
