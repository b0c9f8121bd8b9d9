"""A bench as the document tells it, for the tests to go by: dicts of things, and a row of all that stood."""

from everyexact.bags import bag_error
from everyexact.errors import (
    BadBag, BadBatch, BadScale, ExactError, NoName, NothingToRedo, NothingToUndo, Rejected, Taken, TooMany, TooManyEdits, Unfit,
)
from everyexact.scales import scale_error

PARTS = {"keep": 3, "drop": 1, "rule_put": 2, "rule_taken": 1, "kind_put": 3, "kind_taken": 1}


def plainly_a_name(value):
    return type(value) is str and 1 <= len(value) <= 8 and value != "none" and set(value) <= set("abcdefghijklmnopqrstuvwxyz")


def plain_edit(things, word, *told):
    """The things behind an edit; it raises what [L3] tells, but for the bound of edits."""
    after = dict(things)
    if word == "batch":
        return plain_batch(after, *told)
    if word == "keep":
        return plain_keep(after, *told)
    name = told[0]
    if type(name) is not str or name not in after:
        raise NoName(name)
    if word == "drop":
        del after[name]
        return after
    sort, value = after[name]
    if sort != ("scale" if word.startswith("rule") else "bag"):
        raise Unfit()
    if word.endswith("taken"):
        if value == ():
            raise Unfit()
        after[name] = (sort, value[:-1])
        return after
    grown = value + ((told[1],) if sort == "scale" else (told[1:],))
    ask_right(sort, grown)
    after[name] = (sort, grown)
    return after


def ask_right(sort, value):
    error = scale_error(value) if sort == "scale" else bag_error(value)
    if error is not None:
        raise BadScale(error) if sort == "scale" else BadBag(error)


def plain_keep(after, name, sort, value):
    if not plainly_a_name(name) or type(sort) is not str or sort not in ("scale", "bag"):
        raise Unfit()
    ask_right(sort, value)
    if name in after:
        raise Taken(name)
    if len(after) == 8:
        raise TooMany(8)
    after[name] = (sort, value)
    return after


def plain_batch(after, edits):
    if type(edits) is not tuple or len(edits) > 12:
        raise BadBatch()
    for edit in edits:
        if type(edit) is not tuple or not edit or type(edit[0]) is not str or PARTS.get(edit[0]) != len(edit) - 1:
            raise BadBatch()
    for index, edit in enumerate(edits):
        try:
            after = plain_edit(after, *edit)
        except ExactError:
            raise Rejected(index)
    return after


class PlainBench:
    def __init__(self):
        self.rows = [({}, None)]
        self.back = []

    def edit(self, word, *told):
        after = plain_edit(self.rows[-1][0], word, *told)
        if len(self.rows) == 41:
            raise TooManyEdits()
        self.rows.append((after, (word,) + told))
        self.back = []
        return len(self.rows) - 1

    def undo(self):
        if len(self.rows) == 1:
            raise NothingToUndo()
        self.back.append(self.rows.pop())
        return len(self.rows) - 1

    def redo(self):
        if not self.back:
            raise NothingToRedo()
        self.rows.append(self.back.pop())
        return len(self.rows) - 1

    def shelf(self, version=-1):
        return tuple(sorted(self.rows[version][0].items()))

    def log(self):
        return tuple(edit for _, edit in self.rows[1:])
