"""What values are, as all other files ask for it."""

from everyexact.bounds import MAX_NUMBER


def is_integer(value):
    """Whether value is an integer: Python takes bools for ints, too."""
    return isinstance(value, int) and not isinstance(value, bool)


def is_number(value):
    return is_integer(value) and abs(value) <= MAX_NUMBER


def is_place(rows, value):
    """Whether value is the place of one of rows."""
    return is_integer(value) and 0 <= value < len(rows)


def is_row(value, many):
    """Whether value is a tuple of so many items."""
    return isinstance(value, tuple) and len(value) == many


def row_error(value, most, word, is_right):
    """None for a tuple of at most so many right items; otherwise "form", or (word, place) of the first wrong item."""
    if not isinstance(value, tuple) or len(value) > most:
        return "form"
    for place, item in enumerate(value):
        if not is_right(item):
            return (word, place)
    return None
