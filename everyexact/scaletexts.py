"""The texts of scales: "99/10 999/100 9999/0"."""

from everyexact.decimals import is_decimal
from everyexact.errors import BadText
from everyexact.scales import scale_error


def scale_text(scale):
    """The text of scale."""
    return " ".join([f"{bound}/{step}" for bound, step in scale])


def read_scale(value):
    """The scale of which value is the text; BadText if it is the text of none."""
    if not isinstance(value, str):
        raise BadText()
    # The text of no rules has no blanks to split it at.
    words = value.split(" ") if value else []
    scale = tuple([read_rule(word) for word in words])
    if scale_error(scale) is not None:
        raise BadText()
    return scale


def read_rule(text):
    """The pair that text tells, which need not be a rule."""
    bound, _, step = text.partition("/")
    if not is_decimal(bound) or not is_decimal(step):
        raise BadText()
    return (int(bound), int(step))
