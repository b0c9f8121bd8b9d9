"""Shelves: what benches keep by names, and what each edit makes of it.

A shelf is an ascending tuple of pairs (name, thing), a thing a pair (sort, value). An edit tuple is the word of an edit
and its arguments.
"""

from everyexact.bags import bag_error
from everyexact.bounds import BATCH, MAX_NAME, MAX_NAMES
from everyexact.errors import BadBag, BadBatch, BadScale, ExactError, NoName, Rejected, Taken, TooMany, Unfit
from everyexact.scales import scale_error

LETTERS = "abcdefghijklmnopqrstuvwxyz"


def is_name(value):
    if not isinstance(value, str) or not 1 <= len(value) <= MAX_NAME or value == "none":
        return False
    return all([sign in LETTERS for sign in value])


def thing_of(shelf, name):
    """The thing of a name; NoName if shelf does not have it."""
    for other, thing in shelf:
        if other == name:
            return thing
    raise NoName(name)


def value_of(thing, sort):
    """The scale or the bag that thing is; Unfit if it is of the other sort."""
    found, value = thing
    if found != sort:
        raise Unfit()
    return value


def made_thing(sort, value):
    """The thing of this sort; BadScale or BadBag if value is not such that it could be one."""
    error = scale_error(value) if sort == "scale" else bag_error(value)
    if error is None:
        return (sort, value)
    if sort == "scale":
        raise BadScale(error)
    raise BadBag(error)


def without(shelf, name):
    """The pairs of shelf but that of this name."""
    return tuple([pair for pair in shelf if pair[0] != name])


def with_thing(shelf, name, thing):
    """The shelf on which name has this thing, whether or not it was there."""
    return tuple(sorted(without(shelf, name) + ((name, thing),)))


def keep(shelf, name, sort, value):
    if not is_name(name) or (sort != "scale" and sort != "bag"):
        raise Unfit()
    thing = made_thing(sort, value)
    if name in [other for other, _ in shelf]:
        raise Taken(name)
    if len(shelf) >= MAX_NAMES:
        raise TooMany(MAX_NAMES)
    return with_thing(shelf, name, thing)


def drop(shelf, name):
    # Only a name that is there can go.
    thing_of(shelf, name)
    return without(shelf, name)


def rule_put(shelf, name, rule):
    return put(shelf, name, "scale", rule)


def rule_taken(shelf, name):
    return taken(shelf, name, "scale")


def kind_put(shelf, name, item, many):
    return put(shelf, name, "bag", (item, many))


def kind_taken(shelf, name):
    return taken(shelf, name, "bag")


def put(shelf, name, sort, row):
    """The shelf on which the scale or bag of name has this rule or kind behind all others."""
    value = value_of(thing_of(shelf, name), sort)
    return with_thing(shelf, name, made_thing(sort, value + (row,)))


def taken(shelf, name, sort):
    """The shelf on which the scale or bag of name has lost its last rule or kind; Unfit if it has none."""
    value = value_of(thing_of(shelf, name), sort)
    if len(value) == 0:
        raise Unfit()
    return with_thing(shelf, name, (sort, value[:-1]))


def batch(shelf, edits):
    if not is_batch(edits):
        raise BadBatch()
    after = shelf
    for index, edit in enumerate(edits):
        try:
            after = edited(after, edit)
        except ExactError:
            raise Rejected(index)
    return after


def is_batch(value):
    if not isinstance(value, tuple) or len(value) > BATCH:
        return False
    return all([is_edit(edit) and edit[0] != "batch" for edit in value])


def is_edit(value):
    """Whether value is an edit tuple, whatever its arguments are."""
    if not isinstance(value, tuple) or len(value) == 0 or not isinstance(value[0], str):
        return False
    return value[0] in ARGUMENTS and len(value) == 1 + ARGUMENTS[value[0]]


def edited(shelf, edit):
    """The shelf that an edit tuple makes of this one; the error of the edit if it is refused."""
    word, *told = edit
    action = ACTIONS[word]
    return action(shelf, *told)


ACTIONS = {
    "keep": keep, "drop": drop, "rule_put": rule_put, "rule_taken": rule_taken, "kind_put": kind_put,
    "kind_taken": kind_taken, "batch": batch,
}

ARGUMENTS = {"keep": 3, "drop": 1, "rule_put": 2, "rule_taken": 1, "kind_put": 3, "kind_taken": 1, "batch": 1}
