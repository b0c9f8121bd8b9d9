"""Scales of floats: integers of so many figures, with noughts behind them."""

from everyexact.errors import Unfit
from everyexact.powers import power
from everyexact.scales import scale_error


def float_scale(base, figures, levels):
    """The scale which all m * base ** k fit, m of so many figures, k from 0 to levels; Unfit if it is none."""
    end = power(base, figures)
    step = base
    rules = []
    for _ in range(levels):
        rules.append((end - 1, step))
        end = end * base
        step = step * base
    rules.append((end - 1, 0))
    scale = tuple(rules)
    if scale_error(scale) is not None:
        raise Unfit()
    return scale
