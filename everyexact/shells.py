"""Shells: a bench that is told by lines what to do, and answers by lines."""

from everyexact.bags import looks
from everyexact.benches import Bench
from everyexact.decimals import read_integer
from everyexact.errors import ExactError
from everyexact.scales import fits
from everyexact.scaletexts import read_scale, scale_text
from everyexact.shelves import value_of

WHAT = "what"


class Shell:
    """A bench of its own, and what it answers."""

    def __init__(self):
        self._bench = Bench()

    def say(self, line):
        """What the bench tells behind this line; WHAT if it is none that is known here."""
        told = read_words(line)
        if told is None:
            return WHAT
        word, *arguments = told
        action = ACTIONS[word]
        try:
            return action(self._bench, *arguments)
        except ExactError as error:
            return "error " + type(error).__name__


def read_words(line):
    """The first word of line and what the others tell; None if they are not such as this word asks for."""
    if not isinstance(line, str):
        return None
    word, blank, rest = line.partition(" ")
    if word not in FORMS:
        return None
    form = FORMS[word]
    # Only as many blanks part it as are told: a text may have more of them.
    pieces = rest.split(" ", len(form) - 1) if blank else []
    if len(pieces) != len(form):
        return None
    told = [word] + [read_argument(sort, piece) for sort, piece in zip(form, pieces)]
    return None if None in told else told


def read_argument(sort, piece):
    """What piece tells as a "name", "integer", "integers" or "text"; None if it is none of this sort."""
    if sort == "name":
        return piece if piece != "" and " " not in piece else None
    if sort == "integer":
        return read_integer(piece)
    if sort == "integers":
        numbers = [read_integer(word) for word in piece.split(",")]
        return None if None in numbers else tuple(numbers)
    return piece


def do_scale(bench, name, text):
    return version_text(bench.keep(name, "scale", read_scale(text)))


def do_bag(bench, name):
    return version_text(bench.keep(name, "bag", ()))


def do_drop(bench, name):
    return version_text(bench.drop(name))


def do_rule(bench, name, bound, step):
    return version_text(bench.rule_put(name, (bound, step)))


def do_unrule(bench, name):
    return version_text(bench.rule_taken(name))


def do_kind(bench, name, many, item):
    return version_text(bench.kind_put(name, item, many))


def do_unkind(bench, name):
    return version_text(bench.kind_taken(name))


def do_undo(bench):
    return version_text(bench.undo())


def do_redo(bench):
    return version_text(bench.redo())


def version_text(version):
    return f"version {version}"


def tell_names(bench):
    return " ".join(list(bench)) or "none"


def tell_thing(bench, name):
    sort, value = bench[name]
    if sort == "scale":
        return "scale " + scale_text(value)
    return "bag " + " ".join([kind_text(item, many) for item, many in value])


def kind_text(item, many):
    return f"{many}*" + ",".join([str(number) for number in item])


def tell_exact(bench, name, other):
    return yes_or_no(bench.exact_of(name, other))


def yes_or_no(holds):
    return "yes" if holds else "no"


def tell_ladder(bench, name):
    return scale_text(bench.ladder_of(name)) or "none"


def tell_made(bench):
    return str(bench.made)


def tell_fits(bench, name, number):
    return yes_or_no(fits(value_of(bench[name], "scale"), number))


def tell_looks(bench, name):
    return " ".join([str(total) for total in looks(value_of(bench[name], "bag"))])


ACTIONS = {
    "scale": do_scale, "bag": do_bag, "drop": do_drop, "rule": do_rule, "unrule": do_unrule, "kind": do_kind,
    "unkind": do_unkind, "undo": do_undo, "redo": do_redo, "names": tell_names, "show": tell_thing, "exact": tell_exact,
    "ladder": tell_ladder, "made": tell_made, "fits": tell_fits, "looks": tell_looks,
}

FORMS = {
    "scale": ("name", "text"), "bag": ("name",), "drop": ("name",), "rule": ("name", "integer", "integer"),
    "unrule": ("name",), "kind": ("name", "integer", "integers"), "unkind": ("name",), "undo": (), "redo": (),
    "names": (), "show": ("name",), "exact": ("name", "name"), "ladder": ("name",), "made": (),
    "fits": ("name", "integer"), "looks": ("name",),
}
