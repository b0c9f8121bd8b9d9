"""Programs: rows of sums, differences and multiples over inputs within spans."""

from everyexact.bounds import MAX_FACTOR, MAX_INPUTS, MAX_STEPS
from everyexact.spans import is_held, is_span
from everyexact.values import is_integer, is_number, is_row


def program_error(value):
    """None for a program, otherwise what is wrong first."""
    if not isinstance(value, tuple) or not 1 <= len(value) <= MAX_STEPS:
        return "form"
    for place, step in enumerate(value):
        if not is_step(place, step):
            return ("step", place)
    if len(spans_of(value)) > MAX_INPUTS:
        return "inputs"
    return None


def is_step(place, value):
    """Whether value is a step at this place of a row."""
    if not isinstance(value, tuple) or len(value) == 0:
        return False
    word = value[0]
    told = value[1:]
    if word == "in":
        return is_span(told)
    if word == "is":
        return is_row(told, 1) and is_number(told[0])
    if word == "sum" or word == "less":
        return is_row(told, 2) and is_ahead(place, told[0]) and is_ahead(place, told[1])
    if word == "times":
        return is_row(told, 2) and is_ahead(place, told[0]) and is_factor(told[1])
    return False


def is_ahead(place, value):
    """Whether value is a place ahead of this one."""
    return is_integer(value) and 0 <= value < place


def is_factor(value):
    return is_integer(value) and abs(value) <= MAX_FACTOR


def spans_of(program):
    """The spans (low, high, stride) of the inputs, in order."""
    return [step[1:] for step in program if step[0] == "in"]


def inputs_error(program, value):
    """None for inputs of program, otherwise what is wrong first."""
    spans = spans_of(program)
    if not is_row(value, len(spans)):
        return "form"
    for place, span in enumerate(spans):
        if not is_held(span, value[place]):
            return ("input", place)
    return None


def run(program, inputs):
    """The values of all steps by these inputs."""
    return tuple([worth(form, inputs) for form in forms(program)])


def forms(program):
    """The forms of all steps: pairs of a constant and a coefficient for each input."""
    many = len(spans_of(program))
    rows = []
    ahead = 0
    for step in program:
        word = step[0]
        if word == "in":
            rows.append((0, tuple([1 if place == ahead else 0 for place in range(many)])))
            ahead += 1
        elif word == "is":
            rows.append((step[1], (0,) * many))
        elif word == "times":
            rows.append(blend(rows[step[1]], step[2], rows[step[1]], 0))
        else:
            rows.append(blend(rows[step[1]], 1, rows[step[2]], 1 if word == "sum" else -1))
    return tuple(rows)


def blend(one, many, other, more):
    """The form one taken many times and the form other taken more times, together."""
    constant = one[0] * many + other[0] * more
    return (constant, tuple([first * many + second * more for first, second in zip(one[1], other[1])]))


def worth(form, inputs):
    """The value of a step of this form."""
    constant, coefficients = form
    return constant + sum([factor * number for factor, number in zip(coefficients, inputs)])


def hulls(program):
    """The least and the greatest value of each step, for all inputs."""
    spans = spans_of(program)
    return tuple([hull(form, spans) for form in forms(program)])


def hull(form, spans):
    """The least and the greatest value of a step of this form."""
    constant, coefficients = form
    least = greatest = constant
    for factor, (low, high, _) in zip(coefficients, spans):
        least += min(factor * low, factor * high)
        greatest += max(factor * low, factor * high)
    return (least, greatest)
