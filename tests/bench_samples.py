"""Benches that the tests go through, and how they are looked at."""

import random

from everyexact.benches import Bench
from everyexact.errors import ExactError, NothingToRedo
from everyexact.shells import Shell
from tests.samples import GREAT, MANY, PAY, TENS, WIDE, any_values, great_scales

EXAMPLES_L5 = """
    >>> from everyexact.benches import Bench
    >>> b, tens = Bench(), ((99, 10), (999, 100), (9999, 0))
    >>> [b.keep("tens", "scale", tens), b.keep("coins", "bag", (((0, 50), 2),)), len(b), list(b), b["coins"], b.version]
    [1, 2, 2, ['coins', 'tens'], ('bag', (((0, 50), 2),)), 2]
    >>> [b.exact_of("tens", "coins"), b.ladder_of("tens"), b.exact_of("tens", "coins"), b.made]
    [True, ((99, 10), (990, 100), (9800, 9900), (9900, 0)), True, 2]
    >>> [b.kind_put("coins", (0, 25), 1), b.exact_of("tens", "coins"), b.undo(), b.exact_of("tens", "coins"), b.made]
    [3, False, 2, True, 3]
    >>> [b.rule_taken("tens"), b.ladder_of("tens"), b.rule_put("tens", (9999, 0)), b["tens"][1] == tens, b.exact_of("tens", "coins"), b.made]
    [3, ((99, 10), (990, 100)), 4, True, True, 4]
    >>> b.rule_put("tens", (5,))
    raises BadScale(('rule', 3))
    >>> b.kind_put("coins", (1, 2), 1)
    raises BadBag(('kind', 1))
    >>> b.exact_of("coins", "tens")
    raises Unfit()
    >>> b.batch((("drop", "tens"), ("rule_taken", "tens")))
    raises Rejected(1)
"""

COINS = (((0, 50), 2),)
LONG = great_scales()[0]
FULL = (((0, 5), 1),) * 12

SCALES = (TENS, (), ((0, 2),), ((5, 10 ** 60),), LONG, ((GREAT, 0), (0, GREAT)))
BAGS = (COINS, (), PAY, ((WIDE, MANY),), FULL, (((0,), 1),))
RULES = ((9999, 0), (0, 2), (0, 0), (GREAT, 2), (5, GREAT), (7, 7), (5,), (0, 1), (5, True), None, [5, 2], (-1, 2))
KINDS = (
    ((0, 25), 1), ((0,), MANY), ((-5, 0, 5), 3), (WIDE, 7), ((1, 2), 1), ((0, 5), 0), ((0, 5), True), ([0, 5], 1), (None, 1), ((0, 5), None),
)
NAMES = ("tens", "coins", "a", "zz", "abcdefgh", "b", "c", "d", "e")

RIGHT_NAMES = ("a", "z", "ab", "abcdefgh", "zzzzzzzz", "non", "nones", "noned", "one", "scale", "bag", "keep")
WRONG_NAMES = (
    "", "none", "abcdefghi", "A", "aB", "a1", "1", "a b", " a", "a ", "a_b", "_", "a\n", "\n", "a-b", "None", "NONE", "x" * 400, "a,b", "(a)", "[", "`", "{",
)


def small_bench():
    """A bench with a scale and a bag, each with rules or kinds and each without."""
    bench = Bench()
    for name, sort, value in (("tens", "scale", TENS), ("coins", "bag", COINS), ("free", "scale", ()), ("hollow", "bag", ())):
        bench.keep(name, sort, value)
    return bench


def filled(bench):
    """bench with empty batches up to forty edits."""
    while bench.version < 40:
        bench.batch(())
    return bench


def wild_values():
    """Values of all kinds, and what this package makes."""
    bench = Bench()
    bench.keep("a", "bag", COINS)
    return any_values() + [(), ("scale", ()), "scale", "bag", Bench(), bench, Shell(), (bench, 0), [Bench()]]


def state(bench):
    """All that can be seen of a bench, what was taken back, too; the bench stays as it is."""
    twin = bench.copy()
    ahead = []
    while True:
        try:
            twin.redo()
        except NothingToRedo:
            break
        ahead.append((twin.version, twin.shelf, twin.log[-1]))
    return (
        bench.shelf, bench.version, bench.log, bench.made, len(bench), list(bench), [bench[name] for name in bench],
        [bench.at(version) for version in range(bench.version + 1)], ahead,
    )


def random_edit(source):
    word = source.choice(("keep", "keep", "keep", "drop", "rule_put", "rule_taken", "kind_put", "kind_taken", "batch"))
    name = source.choice(NAMES)
    if word == "keep":
        sort = source.choice(("scale", "bag"))
        value = source.choice(SCALES if sort == "scale" else BAGS)
        return source.choice(((word, name, sort, value),) * 9 + ((word, name, "sort", value), (word, "none", sort, value), (word, name, sort, [])))
    if word == "rule_put":
        return (word, name, source.choice(RULES))
    if word == "kind_put":
        return (word, name) + source.choice(KINDS)
    if word == "batch":
        parts = [random_edit(source) for _ in range(source.choice((0, 1, 2, 2, 3, 12, 13)))]
        return (word, tuple(part for part in parts if part[0] != "batch" or source.random() < 0.1))
    return (word, name)


def done(bench, edit):
    """What an edit tuple, done by the bench's method of its word, returns."""
    return getattr(bench, edit[0])(*edit[1:])


def random_benches(many=40):
    """Benches behind many edits of all sorts, some of them refused, some taken back and done again."""
    source = random.Random(263)
    benches = [Bench()]
    for _ in range(many):
        bench = Bench()
        for _ in range(source.choice((3, 10, 30, 90, 200))):
            try:
                step = source.random()
                if step < 0.1:
                    bench.undo()
                elif step < 0.17:
                    bench.redo()
                else:
                    done(bench, random_edit(source))
            except ExactError:
                pass
        benches.append(bench)
    return benches
