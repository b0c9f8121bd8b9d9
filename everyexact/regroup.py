"""Terms over inputs: whether they may be added in all orders and brackets, for all values of their spans.

[I4] tells which sums decide, value by value; [I5] why of each span a few values tell of all.
"""

from everyexact.bags import is_ascending
from everyexact.bounds import MAX_INPUTS, MAX_TERMS
from everyexact.programs import is_factor
from everyexact.scales import fits
from everyexact.spans import is_held, is_span
from everyexact.trees import switched
from everyexact.values import is_place, is_row, row_error


def spans_error(value):
    """None for spans, otherwise what is wrong first."""
    return row_error(value, MAX_INPUTS, "span", is_span)


def terms_error(spans, value):
    """None for terms of spans, otherwise what is wrong first."""
    return row_error(value, MAX_TERMS, "term", lambda item: is_term(spans, item))


def is_term(spans, value):
    if not is_row(value, 2):
        return False
    which, factor = value
    return is_place(spans, which) and is_factor(factor) and factor != 0


def regroupable(scale, spans, terms):
    """Whether the sums of all lots of terms fit scale, for all values of spans."""
    return bad_regroup(scale, spans, terms) is None


def bad_regroup(scale, spans, terms):
    """None if terms are regroupable, otherwise values and a lot of terms whose sum by them does not fit scale."""
    # From below all is as from above with the factors turned in sign, as -x fits if x does.
    turned = [(which, -factor) for which, factor in terms]
    for values, lot in looks_above(spans, terms) + looks_above(spans, turned):
        if not fits(scale, lot_sum(terms, values, lot)):
            return (values, lot)
    return None


def looks_above(spans, terms):
    """Values and lots: the greatest sum of all, but for one span's value, and then for one of its terms, too."""
    best = [best_value(spans, terms, which) for which in range(len(spans))]
    found = []
    for which, span in enumerate(spans):
        own = [place for place, (other, _) in enumerate(terms) if other == which]
        for value in telling_values(span):
            values = tuple(best[:which] + [value] + best[which + 1:])
            lot = [place for place, (other, factor) in enumerate(terms) if factor * values[other] > 0]
            found.append((values, tuple(lot)))
            found.extend([(values, tuple(sorted(switched(lot, place)))) for place in own])
    return found


def best_value(spans, terms, which):
    """The value of this span by which its terms above 0 have the greatest sum."""
    low, high, _ = spans[which]
    # On either side of 0 the sum is greater the farther off 0 the value is: so it is greatest at an end.
    return high if above_many(terms, which, high) > above_many(terms, which, low) else low


def above_many(terms, which, value):
    """The sum of the terms above 0 of the span at the place which, by this value."""
    return sum([max(0, factor * value) for other, factor in terms if other == which])


def telling_values(span):
    """The two lowest integers that span holds, and the two highest ones: by these all fits if it does by all others.

    On either side of 0 the sums of a look go on by one number from value to value ([I5]). So those above a bound stand
    at one end of this row, and the two last ones there tell of all. If that is the end next to 0 a term is left out, or
    taken in, that is above 0 on the other side: if the span goes there the sums of that side are above the bound, too,
    with this term and without it, and tell by what the term goes on.
    """
    low, high, stride = span
    return sorted(set([value for value in (low, low + stride, high - stride, high) if low <= value <= high]))


def lot_sum(terms, values, lot):
    """The sum of the terms of lot by these values."""
    total = 0
    for place in lot:
        which, factor = terms[place]
        total += factor * values[which]
    return total


def bad_regroup_holds(scale, spans, terms, value):
    """Whether value is values of spans and a lot of terms whose sum by them does not fit scale."""
    if not is_row(value, 2):
        return False
    values, lot = value
    if not are_values(spans, values) or not is_lot(terms, lot):
        return False
    return not fits(scale, lot_sum(terms, values, lot))


def are_values(spans, value):
    """Whether value is values of spans."""
    return is_row(value, len(spans)) and all([is_held(span, number) for span, number in zip(spans, value)])


def is_lot(terms, value):
    """Whether value is a lot of terms."""
    if not isinstance(value, tuple):
        return False
    return all([is_place(terms, place) for place in value]) and is_ascending(value)
