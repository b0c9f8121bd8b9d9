"""Whether all steps of a program can be kept for all inputs: [H5] tells why a few inputs tell of all."""

from everyexact.programs import forms, inputs_error, spans_of, worth
from everyexact.scales import fits
from everyexact.values import is_place, is_row


def first_unfit(scale, program):
    """The place of the first step that has a value, for some inputs, that does not fit scale; None if there is none."""
    found = unfit_inputs(scale, program)
    return None if found is None else found[0]


def unfit_inputs(scale, program):
    """None if all steps fit for all inputs, otherwise a place and inputs by which the step there does not fit."""
    spans = spans_of(program)
    for place, form in enumerate(forms(program)):
        _, coefficients = form
        for inputs in looked_inputs(coefficients, spans):
            if not fits(scale, worth(form, inputs)):
                return (place, inputs)
    return None


def looked_inputs(coefficients, spans):
    """The inputs of the greatest value and of the least one, and those that are one stride off them in one input."""
    found = []
    for sign in (1, -1):
        best = [high if factor * sign > 0 else low for factor, (low, high, _) in zip(coefficients, spans)]
        found.append(tuple(best))
        for place, (low, high, stride) in enumerate(spans):
            if low < high:
                off = low + stride if best[place] == low else high - stride
                found.append(tuple(best[:place] + [off] + best[place + 1:]))
    return found


def unfit_holds(scale, program, value):
    """Whether value is a place and inputs by which the step there does not fit scale."""
    if not is_row(value, 2):
        return False
    place, inputs = value
    if not is_place(program, place) or inputs_error(program, inputs) is not None:
        return False
    return not fits(scale, worth(forms(program)[place], inputs))
