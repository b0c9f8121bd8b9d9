"""Programs that the tests go through, and their values, reckoned without the program."""

import itertools
import random

PROGRAM = (("in", 0, 90, 10), ("in", -5, 5, 1), ("sum", 0, 1), ("times", 0, 3), ("less", 3, 2))
BACK = (("in", 0, 90, 1), ("in", 0, 900, 10), ("sum", 0, 1), ("less", 2, 1), ("is", 4), ("sum", 4, 4))


def plain_values(program, inputs):
    """As [H1] tells the values, each step asking for those that it names."""
    left = iter(inputs)
    taken = {place: next(left) for place, step in enumerate(program) if step[0] == "in"}

    def value(place):
        word, *told = program[place]
        if word == "in":
            return taken[place]
        if word == "is":
            return told[0]
        if word == "times":
            return value(told[0]) * told[1]
        return value(told[0]) + value(told[1]) if word == "sum" else value(told[0]) - value(told[1])

    return tuple(value(place) for place in range(len(program)))


def held(low, high, stride):
    return range(low, high + 1, stride)


def all_inputs(program):
    return list(itertools.product(*[held(*step[1:]) for step in program if step[0] == "in"]))


def small_programs():
    """Programs of one to nine steps over few inputs, with all words."""
    source = random.Random(151)
    programs = [(("is", 7),), (("in", 2, 2, 5),), PROGRAM, BACK, BACK[:4]]
    for many in tuple(range(1, 10)) * 12:
        steps = []
        for place in range(many):
            word = source.choice(("in", "is") if place == 0 else ("in", "is", "sum", "less", "times", "sum", "less"))
            if word == "in" and len([step for step in steps if step[0] == "in"]) < 3:
                low, stride = source.randrange(-9, 10), source.randrange(1, 6)
                steps.append(("in", low, low + stride * source.randrange(0, 4), stride))
            elif word == "is" or place == 0 or word == "in":
                steps.append(("is", source.randrange(-9, 10)))
            elif word == "times":
                steps.append(("times", source.randrange(place), source.choice((-7, -1, 0, 1, 2, 10))))
            else:
                steps.append((word, source.randrange(place), source.randrange(place)))
        programs.append(tuple(steps))
    return programs
