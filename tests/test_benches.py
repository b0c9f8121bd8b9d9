import copy
import itertools
import random
import unittest

from everyexact.benches import Bench
from everyexact.errors import (
    BadBag, BadBatch, BadLog, BadScale, ExactError, NoName, NothingToRedo, NothingToUndo, NoVersion, Rejected, Taken, TooMany, TooManyEdits,
    Unfit,
)
from everyexact.exactness import exact
from everyexact.ladders import ladder
from everyexact.logs import bench_behind, log_text, read_log
from everyexact.shells import Shell
from tests.bench_samples import (
    BAGS, COINS, EXAMPLES_L5, FULL, LONG, RIGHT_NAMES, SCALES, WRONG_NAMES, done, filled, random_benches, random_edit, small_bench, state,
    wild_values,
)
from tests.calling import ExampleCase
from tests.plain_bench import PARTS, PlainBench
from tests.samples import GREAT, MANY, TENS

# The arguments of each method, by name.
ARGUMENTS = {
    "keep": ("name", "sort", "value"), "drop": ("name",), "rule_put": ("name", "rule"), "rule_taken": ("name",),
    "kind_put": ("name", "item", "many"), "kind_taken": ("name",), "batch": ("edits",), "undo": (), "redo": (),
    "at": ("version",), "exact_of": ("name", "other"), "ladder_of": ("name",),
}


class BenchCase(unittest.TestCase):
    def edited(self, bench, word, *told):
        """The version behind an edit, that is the same by place and by name, on a copy and on the bench."""
        twins = [bench.copy(), bench.copy()]
        handed = copy.deepcopy(told)
        answers = [
            getattr(twins[0], word)(*told), getattr(twins[1], word)(**dict(zip(ARGUMENTS[word], told))), getattr(bench, word)(*told),
        ]
        self.assertEqual([repr(answer) for answer in answers], [repr(bench.version)] * 3)
        self.assertEqual([repr(state(twin)) for twin in twins], [repr(state(bench))] * 2)
        self.assertEqual(repr(told), repr(handed))
        # Whatever stands can be written down, read, and done again.
        self.assertEqual(repr(read_log(log_text(bench.log))), repr(bench.log))
        self.assertEqual(repr(bench_behind(bench.log).log), repr(bench.log))
        self.assertTrue(bench_behind(bench.log) == bench)
        return answers[0]

    def assertRefused(self, expected, bench, word, *told):
        """The method raises an error of just this class with these fields, by place and by name, twice; nothing changes."""
        ahead = repr(state(bench))
        by_name = dict(zip(ARGUMENTS[word], told))
        for _ in range(2):
            for call in (lambda: getattr(bench, word)(*told), lambda: getattr(bench, word)(**by_name)):
                with self.assertRaises(ExactError) as held:
                    call()
                self.assertIs(type(held.exception), type(expected))
                self.assertEqual(list(vars(held.exception)), list(vars(expected)))
                for field, value in vars(expected).items():
                    if field == "given":
                        self.assertIs(vars(held.exception)[field], value)
                    else:
                        self.assertEqual(repr(vars(held.exception)[field]), repr(value))
        self.assertEqual(repr(state(bench)), ahead)


class ExamplesTest(ExampleCase):
    def test_examples(self):
        self.assertEqual(self.run_examples(EXAMPLES_L5, {}), 10)


class ShelfTest(BenchCase):
    def test_new(self):
        bench = Bench()
        self.assertEqual(repr(state(bench)), repr(((), 0, (), 0, 0, [], [], [()], [])))
        self.assertEqual(repr((bench.shelf, bench.version, bench.log, bench.made)), "((), 0, (), 0)")

    def test_properties_can_only_be_read(self):
        bench = small_bench()
        ahead = repr(state(bench))
        for name in ("shelf", "version", "log", "made"):
            self.assertIsInstance(vars(Bench)[name], property)
            with self.assertRaises(AttributeError):
                setattr(bench, name, 0)
            with self.assertRaises(AttributeError):
                delattr(bench, name)
        self.assertEqual(repr(state(bench)), ahead)

    def test_names(self):
        bench = small_bench()
        self.assertEqual(len(bench), 4)
        self.assertEqual(list(bench), ["coins", "free", "hollow", "tens"])
        self.assertEqual([name for name in bench], sorted(bench))
        self.assertEqual(bench.shelf, (
            ("coins", ("bag", COINS)), ("free", ("scale", ())), ("hollow", ("bag", ())), ("tens", ("scale", TENS)),
        ))
        for name, thing in bench.shelf:
            self.assertIs(name in bench, True)
            self.assertIs(name not in bench, False)
            self.assertEqual(repr(bench[name]), repr(thing))

    def test_no_names(self):
        bench = small_bench()
        for value in wild_values() + list(WRONG_NAMES) + ["ten", "tenss", "coins ", ["tens"], ("tens",), b"tens", {"tens": 1}, {}]:
            self.assertIs(value in bench, False)
            self.assertIs(value not in bench, True)
            for _ in range(2):
                with self.assertRaises(NoName) as held:
                    bench[value]
                self.assertIs(type(held.exception), NoName)
                self.assertIs(held.exception.given, value)
            self.assertIs(value in Bench(), False)

    def test_equal_and_not(self):
        one, other = small_bench(), small_bench()
        self.assertTrue(one == other and not one != other)
        for edit in (("drop", "free"), ("rule_taken", "tens"), ("kind_put", "coins", (0, 25), 1), ("keep", "more", "bag", ())):
            twin = one.copy()
            done(twin, edit)
            self.assertTrue(one != twin and not one == twin)
            self.assertTrue(twin != one and not twin == one)
            twin.undo()
            self.assertTrue(one == twin and not one != twin)
        # Another way to the same shelf, and other things asked.
        other.ladder_of("tens")
        other.batch(())
        other.drop("hollow")
        other.keep("hollow", "bag", ())
        self.assertTrue(one == other and not one != other)
        self.assertTrue(Bench() == Bench() and not Bench() != Bench())
        # The sort counts.
        scale, bag = Bench(), Bench()
        scale.keep("a", "scale", ())
        bag.keep("a", "bag", ())
        self.assertTrue(scale != bag and not scale == bag)

    def test_equal_to_nothing_else(self):
        bench = small_bench()
        for value in [value for value in wild_values() if not isinstance(value, Bench)] + [bench.shelf, bench.log, list(bench), len(bench), Bench]:
            self.assertIs(bench == value, False)
            self.assertIs(value == bench, False)
            self.assertIs(bench != value, True)
            self.assertIs(value != bench, True)
            self.assertIs(Bench() == value, False)

    def test_what_was_handed_out_stays(self):
        bench = small_bench()
        shelf, log, names, thing, at = bench.shelf, bench.log, list(bench), bench["tens"], bench.at(2)
        ahead = repr((shelf, log, names, thing, at))
        for edit in (("rule_taken", "tens"), ("drop", "coins"), ("keep", "a", "bag", COINS), ("batch", (("drop", "a"), ("drop", "tens")))):
            done(bench, edit)
        bench.undo()
        bench.redo()
        bench.undo()
        self.assertEqual(repr((shelf, log, names, thing, at)), ahead)

    def test_two_benches_do_not_meet(self):
        one, other = Bench(), Bench()
        one.keep("a", "scale", TENS)
        one.ladder_of("a")
        self.assertEqual(repr(state(other)), repr(state(Bench())))


class EditsTest(BenchCase):
    def test_keep(self):
        for name, (sort, value) in itertools.product(
            RIGHT_NAMES, [("scale", value) for value in SCALES] + [("bag", value) for value in BAGS],
        ):
            bench = Bench()
            self.assertEqual(self.edited(bench, "keep", name, sort, value), 1)
            self.assertEqual(repr(bench.shelf), repr(((name, (sort, value)),)))
            self.assertEqual(repr(bench.log), repr((("keep", name, sort, value),)))
            self.assertEqual(repr((bench[name], list(bench), len(bench), name in bench)), repr(((sort, value), [name], 1, True)))

    def test_eight_names_and_a_ninth(self):
        for order in itertools.islice(itertools.permutations("abcdefgh"), 0, 40320, 2500):
            bench = Bench()
            for many, name in enumerate(order):
                self.assertEqual(bench.keep(name, "bag", ()), many + 1)
                self.assertEqual(list(bench), sorted(order[:many + 1]))
            self.assertEqual(bench.shelf, tuple((name, ("bag", ())) for name in "abcdefgh"))
            self.assertRefused(TooMany(8), bench, "keep", "ninth", "scale", TENS)
            self.assertRefused(TooMany(8), bench, "keep", "ninth", "bag", ())
            self.assertRefused(Taken("c"), bench, "keep", "c", "bag", ())
            self.edited(bench, "drop", "c")
            self.edited(bench, "keep", "ninth", "scale", TENS)

    def test_drop(self):
        bench = small_bench()
        for version, name in enumerate(("free", "tens", "hollow", "coins"), start=5):
            self.assertEqual(self.edited(bench, "drop", name), version)
            self.assertFalse(name in bench)
            self.assertRefused(NoName(name), bench, "drop", name)
        self.assertEqual(repr((bench.shelf, len(bench), list(bench))), "((), 0, [])")

    def test_rules(self):
        bench = small_bench()
        self.edited(bench, "rule_taken", "tens")
        self.assertEqual(bench["tens"], ("scale", TENS[:-1]))
        self.edited(bench, "rule_put", "tens", (5, 7))
        self.assertEqual(bench["tens"], ("scale", TENS[:-1] + ((5, 7),)))
        for many in range(10):
            self.edited(bench, "rule_put", "free", (many, 0))
        self.assertEqual(bench["free"], ("scale", tuple((many, 0) for many in range(10))))
        for many in range(10)[::-1]:
            self.edited(bench, "rule_taken", "free")
            self.assertEqual(bench["free"], ("scale", tuple((few, 0) for few in range(many))))
        self.assertRefused(Unfit(), bench, "rule_taken", "free")

    def test_forty_rules(self):
        bench = Bench()
        bench.keep("long", "scale", LONG)
        self.assertEqual(len(LONG), 40)
        for rule in ((0, 2), (5,), None):
            self.assertRefused(BadScale("form"), bench, "rule_put", "long", rule)
        self.edited(bench, "rule_taken", "long")
        self.edited(bench, "rule_put", "long", (0, 2))
        self.assertRefused(BadScale("form"), bench, "rule_put", "long", (0, 2))

    def test_a_scale_that_would_be_too_great(self):
        bench = Bench()
        bench.keep("a", "scale", ((0, GREAT),))
        for rule, error in (((0, 7), "great"), ((0, 7, 0), ("rule", 1)), ((5, 1), ("rule", 1))):
            self.assertRefused(BadScale(error), bench, "rule_put", "a", rule)
        self.edited(bench, "rule_put", "a", (0, 10))

    def test_kinds(self):
        bench = small_bench()
        self.edited(bench, "kind_put", "coins", (0, 25), 1)
        self.assertEqual(bench["coins"], ("bag", COINS + (((0, 25), 1),)))
        self.edited(bench, "kind_taken", "coins")
        self.edited(bench, "kind_taken", "coins")
        self.assertEqual(bench["coins"], ("bag", ()))
        self.assertRefused(Unfit(), bench, "kind_taken", "coins")
        self.assertRefused(Unfit(), bench, "kind_taken", "hollow")
        self.edited(bench, "kind_put", "hollow", (0,), MANY)
        self.assertEqual(bench["hollow"], ("bag", (((0,), MANY),)))

    def test_twelve_kinds(self):
        bench = Bench()
        bench.keep("full", "bag", FULL)
        self.assertRefused(BadBag("form"), bench, "kind_put", "full", (0, 5), 1)
        self.assertRefused(BadBag("form"), bench, "kind_put", "full", None, None)
        self.edited(bench, "kind_taken", "full")
        self.assertRefused(BadBag(("kind", 11)), bench, "kind_put", "full", (0, 5), MANY + 1)
        self.edited(bench, "kind_put", "full", (0, 5), 1)

    def test_the_thing_is_not_the_sort(self):
        bench = small_bench()
        for word, told in (
            ("rule_put", ("coins", (5, 2))), ("rule_put", ("hollow", (5, 2))), ("rule_taken", ("coins",)), ("rule_taken", ("hollow",)),
            ("rule_taken", ("free",)), ("kind_put", ("tens", (0, 5), 1)), ("kind_put", ("free", (0, 5), 1)), ("kind_taken", ("tens",)),
            ("kind_taken", ("free",)), ("kind_taken", ("hollow",)), ("rule_put", ("coins", None)), ("kind_put", ("tens", None, None)),
        ):
            self.assertRefused(Unfit(), bench, word, *told)

    def test_an_edit_that_leaves_the_shelf(self):
        bench = small_bench()
        self.assertEqual(self.edited(bench, "batch", ()), 5)
        self.assertEqual(self.edited(bench, "batch", (("rule_taken", "tens"), ("rule_put", "tens", TENS[-1]))), 6)
        self.assertEqual(bench.shelf, small_bench().shelf)
        self.assertEqual(bench.log[4:], (("batch", ()), ("batch", (("rule_taken", "tens"), ("rule_put", "tens", TENS[-1])))))


class WrongArgumentsTest(BenchCase):
    def test_each_argument_of_each_kind(self):
        model = PlainBench()
        bench = small_bench()
        for edit in bench.log:
            model.edit(*edit)
        right = {
            "keep": ("more", "bag", COINS), "drop": ("tens",), "rule_put": ("tens", (5, 7)), "rule_taken": ("tens",),
            "kind_put": ("coins", (0, 25), 1), "kind_taken": ("coins",), "batch": ((("drop", "tens"),),),
        }
        for word, told in right.items():
            for place, value in itertools.product(range(len(told)), wild_values() + list(WRONG_NAMES)):
                self.check_as_model(bench, model, (word,) + told[:place] + (value,) + told[place + 1:])

    def test_two_arguments_of_each_kind(self):
        model = PlainBench()
        bench = small_bench()
        for edit in bench.log:
            model.edit(*edit)
        some = [None, True, 0, 1, 7, "", "none", "tens", "coins", "hollow", "scale", "bag", (), (0,), (5, 2), (0, 5), [], {}, TENS, COINS, Unfit(), bench]
        for word, many in list(PARTS.items()):
            for told in itertools.product(some, repeat=many):
                self.check_as_model(bench, model, (word,) + told)

    def check_as_model(self, bench, model, edit):
        """On a copy, so that each edit comes behind the same ones."""
        twin = bench.copy()
        expected = None
        try:
            model.edit(*edit)
        except ExactError as error:
            expected = error
        if expected is None:
            self.assertEqual(repr(done(twin, edit)), repr(len(model.rows) - 1))
            self.assertEqual(repr(twin.shelf), repr(model.shelf()))
            model.undo()
            return
        ahead = (repr(twin.shelf), repr(twin.log), twin.version)
        with self.assertRaises(ExactError) as held:
            done(twin, edit)
        self.assertIs(type(held.exception), type(expected))
        self.assertEqual(repr(vars(held.exception)), repr(vars(expected)))
        self.assertEqual((repr(twin.shelf), repr(twin.log), twin.version), ahead)

    def test_order_of_errors_of_keep(self):
        """Each lot of things that are wrong: the first one told is raised."""
        eight = Bench()
        for name in "abcdefgh":
            eight.keep(name, "bag", ())
        seven = eight.copy()
        seven.drop("h")
        for full, taken, bad, many in itertools.product((True, False), repeat=4):
            bench = (eight if full else seven).copy()
            if many:
                filled(bench)
            name = "a" if taken else "other"
            for sort, error in (("scale", BadScale(("rule", 0))), ("bag", BadBag(("kind", 0)))):
                value = (None,) if bad else ()
                self.assertRefused(Unfit(), bench, "keep", "Other", sort, value)
                self.assertRefused(Unfit(), bench, "keep", name, "sort", value)
                self.assertRefused(Unfit(), bench, "keep", name, None, value)
                told = [error] * bad + [Taken(name)] * taken + [TooMany(8)] * full + [TooManyEdits()] * many
                if told:
                    self.assertRefused(told[0], bench, "keep", name, sort, value)
                else:
                    self.edited(bench.copy(), "keep", name, sort, value)

    def test_order_of_errors_of_the_others(self):
        for many in (False, True):
            bench = filled(small_bench()) if many else small_bench()
            for name in ("nowhere", "", "none", None, ["tens"]):
                for word, told in (
                    ("drop", ()), ("rule_put", ((5,),)), ("rule_put", ((5, 2),)), ("rule_taken", ()), ("kind_put", ((1, 2), 1)),
                    ("kind_put", ((0, 2), 1)), ("kind_taken", ()),
                ):
                    self.assertRefused(NoName(name), bench, word, name, *told)
            for word, told, error in (
                ("rule_put", ("coins", (5,)), Unfit()), ("rule_put", ("tens", (5,)), BadScale(("rule", 3))), ("rule_taken", ("free",), Unfit()),
                ("kind_put", ("tens", (1, 2), 1), Unfit()), ("kind_put", ("coins", (1, 2), 1), BadBag(("kind", 1))), ("kind_taken", ("hollow",), Unfit()),
                ("batch", ([],), BadBatch()), ("batch", ((("drop", "nowhere"),),), Rejected(0)), ("batch", ((("undo",),),), BadBatch()),
            ):
                self.assertRefused(error, bench, word, *told)
            for word, told in (
                ("drop", ("tens",)), ("rule_put", ("tens", (5, 7))), ("rule_taken", ("tens",)), ("kind_put", ("coins", (0, 2), 1)),
                ("kind_taken", ("coins",)), ("batch", ((),)), ("batch", ((("drop", "tens"),),)), ("keep", ("more", "bag", ())),
            ):
                if many:
                    self.assertRefused(TooManyEdits(), bench, word, *told)
                else:
                    self.edited(bench.copy(), word, *told)

    def test_forty_edits(self):
        bench = Bench()
        for version in range(1, 41):
            edit = ("keep", "a", "bag", ()) if version % 2 else ("drop", "a")
            self.assertEqual(done(bench, edit), version)
        self.assertRefused(TooManyEdits(), bench, "keep", "a", "bag", ())
        self.assertRefused(TooManyEdits(), bench, "batch", ())
        # Taken back it is less than forty again, and what was taken back can be done again.
        self.assertEqual([bench.undo(), bench.redo()], [39, 40])
        self.assertRefused(TooManyEdits(), bench, "batch", ())
        bench.undo()
        self.assertEqual(self.edited(bench, "batch", ()), 40)
        self.assertRefused(TooManyEdits(), bench, "drop", "a")


class BatchTest(BenchCase):
    def test_none_to_twelve_parts(self):
        names = "abcdefgh"
        for many in range(13):
            parts = [("keep", name, "bag", ()) for name in names] + [("drop", name) for name in names]
            bench = Bench()
            self.assertEqual(self.edited(bench, "batch", tuple(parts[:many])), 1)
            self.assertEqual(list(bench), sorted(names[:many]) if many <= 8 else sorted(names[many - 8:]))
            self.assertEqual(bench.log, (("batch", tuple(parts[:many])),))
            self.assertEqual(bench.undo(), 0)
            self.assertEqual(bench.shelf, ())
        self.assertRefused(BadBatch(), Bench(), "batch", tuple(parts[:13]))
        self.assertRefused(BadBatch(), Bench(), "batch", (("drop", "a"),) * 13)

    def test_each_kind_of_part(self):
        bench = small_bench()
        for part in (
            ("keep", "more", "bag", COINS), ("keep", "more", "scale", ()), ("drop", "tens"), ("rule_put", "tens", (5, 7)), ("rule_taken", "tens"),
            ("kind_put", "coins", (0, 25), 1), ("kind_taken", "coins"),
        ):
            alone, twin = bench.copy(), bench.copy()
            done(alone, part)
            self.edited(twin, "batch", (part,))
            self.assertEqual(repr(twin.shelf), repr(alone.shelf))
            self.assertEqual(twin.version, alone.version)

    def test_parts_that_need_one_another(self):
        bench = Bench()
        self.edited(bench, "batch", (
            ("keep", "a", "scale", ()), ("rule_put", "a", (5, 2)), ("rule_put", "a", (7, 0)), ("rule_taken", "a"), ("keep", "b", "bag", ()),
            ("kind_put", "b", (0, 5), 3), ("kind_put", "b", (0,), 1), ("kind_taken", "b"), ("keep", "c", "bag", ()), ("drop", "c"),
        ))
        self.assertEqual(bench.shelf, (("a", ("scale", ((5, 2),))), ("b", ("bag", (((0, 5), 3),)))))
        self.edited(bench, "batch", (("drop", "a"), ("keep", "a", "bag", COINS)))
        self.assertEqual(bench.shelf, (("a", ("bag", COINS)), ("b", ("bag", (((0, 5), 3),)))))
        # Eight names stand behind the first part, not nine.
        full = Bench()
        for name in "abcdefgh":
            full.keep(name, "bag", ())
        self.assertRefused(Rejected(0), full, "batch", (("keep", "ninth", "bag", ()), ("drop", "a")))
        self.edited(full, "batch", (("drop", "a"), ("keep", "ninth", "bag", ())))

    def test_a_part_that_is_refused(self):
        bench = small_bench()
        right = ("rule_put", "free", (5, 2))
        for wrong in (
            ("drop", "nowhere"), ("keep", "tens", "bag", ()), ("keep", "none", "bag", ()), ("keep", "more", "sort", ()), ("keep", "more", "bag", None),
            ("rule_put", "tens", (5,)), ("rule_put", "coins", (5, 2)), ("rule_taken", "coins"), ("rule_taken", "nowhere"), ("kind_put", "coins", 1, 1),
            ("kind_taken", "hollow"), ("kind_taken", ["tens"]), ("drop", None), ("keep", None, None, None), ("kind_put", "coins", None, True),
        ):
            for place in (0, 1, 5, 11):
                self.assertRefused(Rejected(place), bench, "batch", (right,) * place + (wrong,) + (right,) * (11 - place))
                self.assertRefused(Rejected(place), bench, "batch", (right,) * place + (wrong,))
            self.assertRefused(Rejected(1), bench, "batch", (right, wrong, wrong))
            self.assertRefused(Rejected(0), filled(bench.copy()), "batch", (wrong,))

    def test_what_is_no_batch(self):
        bench = small_bench()
        right = ("drop", "tens")
        wrong = [
            (), ("drop",), ("drop", "tens", "coins"), ("keep", "a", "bag"), ("keep", "a", "bag", (), ()), ("rule_put", "tens"), ("rule_taken",),
            ("rule_put", "tens", 5, 7), ("kind_put", "coins", (0, 5)), ("kind_put", "coins", ((0, 5), 1)), ("kind_taken", "coins", 1), ("batch", ()),
            ("batch", (right,)), ("undo",), ("redo",), ("copy",), ("at", 0), ("Drop", "tens"), ("", "tens"), (None, "tens"), (["drop"], "tens"),
            (("drop",), "tens"), ({}, "tens"), (0, "tens"), ("drop ", "tens"), ["drop", "tens"], {"drop": "tens"}, "drop", None, 0, True, Unfit(), bench,
            ("exact_of", "tens"), ("do", right), ("attempt", right), (Bench(), "tens"),
        ]
        for part in wrong:
            for edits in ((part,), (right, part), (("drop", "nowhere"), part), (right,) * 11 + (part,), [part], {"batch": part}):
                self.assertRefused(BadBatch(), bench, "batch", edits)
        for edits in [value for value in wild_values() if value != ()] + [[], [right], (right,) * 13, right]:
            self.assertRefused(BadBatch(), bench, "batch", edits)
            self.assertRefused(BadBatch(), filled(bench.copy()), "batch", edits)

    def test_at_forty_edits(self):
        bench = filled(small_bench())
        self.assertRefused(TooManyEdits(), bench, "batch", ())
        self.assertRefused(TooManyEdits(), bench, "batch", (("drop", "tens"), ("drop", "coins")))
        bench.undo()
        # The parts count nothing, so twelve of them come at thirty-nine edits.
        self.edited(bench, "batch", (("rule_put", "free", (5, 2)),) * 12)
        self.assertEqual(bench.version, 40)


class UndoTest(BenchCase):
    def test_back_and_again(self):
        for bench in random_benches():
            shelves = [bench.at(version) for version in range(bench.version + 1)]
            log, ahead = bench.log, repr(state(bench))
            for version in range(bench.version)[::-1]:
                self.assertEqual(repr(bench.undo()), repr(version))
                self.assertEqual(repr((bench.shelf, bench.version, bench.log)), repr((shelves[version], version, log[:version])))
            self.assertRefused(NothingToUndo(), bench, "undo")
            for version in range(1, len(shelves)):
                self.assertEqual(repr(bench.redo()), repr(version))
                self.assertEqual(repr((bench.shelf, bench.version, bench.log)), repr((shelves[version], version, log[:version])))
            self.assertEqual(repr(state(bench)), ahead)

    def test_nothing(self):
        bench = Bench()
        self.assertRefused(NothingToUndo(), bench, "undo")
        self.assertRefused(NothingToRedo(), bench, "redo")
        bench.keep("a", "bag", ())
        self.assertRefused(NothingToRedo(), bench, "redo")
        self.assertEqual(bench.undo(), 0)
        self.assertRefused(NothingToUndo(), bench, "undo")
        self.assertEqual(bench.redo(), 1)
        self.assertRefused(NothingToRedo(), bench, "redo")

    def test_a_batch_is_one_edit(self):
        bench = small_bench()
        ahead = bench.shelf
        bench.batch((("drop", "tens"), ("drop", "coins"), ("keep", "more", "bag", ())))
        behind = bench.shelf
        self.assertEqual([bench.undo(), bench.shelf], [4, ahead])
        self.assertEqual([bench.redo(), bench.shelf], [5, behind])

    def test_an_edit_forgets_what_was_taken_back(self):
        for edit in (("drop", "tens"), ("batch", ()), ("rule_taken", "tens")):
            bench = small_bench()
            bench.drop("free")
            bench.drop("hollow")
            bench.undo()
            bench.undo()
            self.assertEqual(done(bench, edit), 5)
            self.assertRefused(NothingToRedo(), bench, "redo")
            self.assertEqual(bench.log[4:], (edit,))
            self.assertEqual(bench.undo(), 4)
            self.assertEqual(bench.redo(), 5)
            self.assertEqual(bench.log[4:], (edit,))

    def test_refused_edits_forget_nothing(self):
        bench = small_bench()
        bench.drop("free")
        bench.drop("hollow")
        behind = repr(state(bench))
        bench.undo()
        bench.undo()
        self.assertRefused(NoName("nowhere"), bench, "drop", "nowhere")
        self.assertRefused(Rejected(1), bench, "batch", (("drop", "tens"), ("drop", "tens")))
        self.assertRefused(BadBatch(), bench, "batch", None)
        self.assertRefused(Taken("tens"), bench, "keep", "tens", "bag", ())
        self.assertRefused(NoVersion(9), bench, "at", 9)
        self.assertRefused(NoName("x"), bench, "ladder_of", "x")
        self.assertEqual([bench.redo(), bench.redo()], [5, 6])
        self.assertEqual(repr(state(bench)), behind)

    def test_refused_at_forty_forget_nothing(self):
        bench = filled(small_bench())
        bench.undo()
        bench.redo()
        self.assertRefused(TooManyEdits(), bench, "batch", ())
        self.assertRefused(NothingToRedo(), bench, "redo")


class AtTest(BenchCase):
    def test_all_versions(self):
        bench = Bench()
        shelves = [()]
        for edit in small_bench().log + (("drop", "tens"), ("batch", ()), ("kind_put", "hollow", (0, 1), 2)):
            done(bench, edit)
            shelves.append(bench.shelf)
        for version, shelf in enumerate(shelves):
            self.assertEqual(repr((bench.at(version), bench.at(version=version))), repr((shelf, shelf)))
        bench.undo()
        bench.undo()
        for version in range(6):
            self.assertEqual(bench.at(version), shelves[version])
        # Of the edits that stand now: those that were taken back are not among them.
        for version in (6, 7):
            self.assertRefused(NoVersion(version), bench, "at", version)
        bench.redo()
        self.assertEqual(bench.at(6), shelves[6])

    def test_no_version(self):
        bench = small_bench()
        for value in [value for value in wild_values() if type(value) is not int or not 0 <= value <= 4] + [5, -5, 4 * 10 ** 399, "4", (4,), [0]]:
            self.assertRefused(NoVersion(value), bench, "at", value)
        for value in (True, False, -1, 1, None):
            self.assertRefused(NoVersion(value), Bench(), "at", value)


class CopyTest(BenchCase):
    def test_the_same_and_apart(self):
        for bench in random_benches(20):
            ahead = repr(state(bench))
            twin = bench.copy()
            self.assertIs(type(twin), Bench)
            self.assertIsNot(twin, bench)
            self.assertEqual(repr(state(twin)), ahead)
            self.assertTrue(twin == bench)
            self.turn_about(twin)
            self.assertEqual(repr(state(bench)), ahead)
            twin = bench.copy()
            self.turn_about(bench)
            self.assertEqual(repr(state(twin)), ahead)

    def turn_about(self, bench):
        for word in ("undo", "undo", "redo", "undo"):
            try:
                getattr(bench, word)()
            except ExactError:
                pass
        for name in list(bench):
            bench.drop(name)
        if bench.version < 38:
            bench.keep("more", "scale", ((7, 7),))
            bench.ladder_of("more")

    def test_made_goes_along(self):
        bench = small_bench()
        bench.ladder_of("tens")
        twin = bench.copy()
        self.assertEqual((twin.made, bench.made), (1, 1))
        twin.ladder_of("tens")
        self.assertEqual((twin.made, bench.made), (1, 1))
        twin.exact_of("tens", "coins")
        self.assertEqual((twin.made, bench.made), (2, 1))
        bench.ladder_of("free")
        bench.exact_of("tens", "hollow")
        self.assertEqual((twin.made, bench.made), (2, 3))
        bench.exact_of("tens", "coins")
        twin.ladder_of("free")
        self.assertEqual((twin.made, bench.made), (3, 4))


class AttemptTest(BenchCase):
    def test_what_work_returns(self):
        bench = small_bench()
        for value in wild_values():
            for call in (lambda: bench.attempt(lambda held: value), lambda: bench.attempt(work=lambda held: value)):
                self.assertIs(call(), value)
        self.assertIs(bench.attempt(lambda held: held), bench)
        self.assertEqual(bench.attempt(lambda held: held.drop("tens")), 5)
        self.assertEqual((bench.version, bench.log[-1]), (5, ("drop", "tens")))
        self.assertIsNone(bench.attempt(lambda held: None))

    def errors_from_wherever(self):
        """Works that raise an error of the package: by this bench, by another one, by a function, by themselves."""
        mine = BadLog([7])

        def raised(held):
            raise mine

        def base(held):
            raise ExactError()

        def redone(held):
            while True:
                held.redo()

        return (
            (lambda held: held.drop("nowhere"), NoName), (lambda held: Bench().undo(), NothingToUndo), (redone, NothingToRedo),
            (lambda held: held.batch((("drop", "nowhere"),)), Rejected), (lambda held: held["nowhere"], NoName), (lambda held: held.at(True), NoVersion),
            (lambda held: held.exact_of("coins", "coins"), Unfit), (raised, BadLog), (base, ExactError), (lambda held: held.attempt(raised), BadLog),
        )

    def test_an_error_of_the_package(self):
        for taken_back in (0, 1, 2):
            bench = small_bench()
            bench.drop("free")
            bench.drop("hollow")
            for _ in range(taken_back):
                bench.undo()
            for work, expected in self.errors_from_wherever():
                self.check_all_as_ahead(bench, work, expected)

    def check_all_as_ahead(self, bench, work, expected):
        def works():
            yield work
            yield lambda held: (held.drop("tens"), work(held))
            yield lambda held: (held.undo(), held.undo(), held.batch(()), held.keep("more", "scale", ()), work(held))
            yield lambda held: (held.undo(), held.redo(), held.undo(), held.batch(()), held.undo(), work(held))

        for whole in works():
            ahead = repr(state(bench))
            with self.assertRaises(ExactError) as held:
                bench.attempt(whole)
            self.assertIs(type(held.exception), expected)
            self.assertEqual(repr(state(bench)), ahead)

    def test_the_error_goes_on_itself(self):
        mine = NoName(["x"])

        def work(held):
            held.drop("tens")
            raise mine

        bench = small_bench()
        with self.assertRaises(NoName) as held:
            bench.attempt(work)
        self.assertIs(held.exception, mine)
        self.assertEqual(bench.version, 4)

    def test_another_error(self):
        for error in (ValueError("x"), KeyError(1), RuntimeError(), ZeroDivisionError(), TypeError(), IndexError()):
            def work(held):
                held.drop("tens")
                held.undo()
                held.drop("coins")
                held.ladder_of("tens")
                raise error

            bench = small_bench()
            with self.assertRaises(type(error)) as held:
                bench.attempt(work)
            self.assertIs(held.exception, error)
            # What was done stays.
            self.assertEqual((bench.version, bench.log[-1], bench.made), (5, ("drop", "coins"), 1))
            self.assertRefused(NothingToRedo(), bench, "redo")

    def test_what_was_made_stays(self):
        def work(held):
            held.ladder_of("tens")
            held.rule_taken("tens")
            held.ladder_of("tens")
            held.exact_of("tens", "coins")
            held.drop("nowhere")

        bench = small_bench()
        with self.assertRaises(NoName):
            bench.attempt(work)
        self.assertEqual((bench.made, bench.version), (3, 4))
        bench.ladder_of("tens")
        self.assertEqual(bench.made, 3)
        bench.rule_taken("tens")
        bench.exact_of("tens", "coins")
        self.assertEqual(bench.made, 3)

    def test_attempts_within_attempts(self):
        def inner(held):
            held.drop("coins")
            held.drop("coins")

        def caught(held):
            held.drop("tens")
            try:
                held.attempt(inner)
            except NoName:
                pass
            return held.version

        def through(held):
            held.drop("tens")
            held.attempt(inner)

        def late(held):
            held.attempt(lambda again: again.drop("tens"))
            held.attempt(lambda again: again.drop("coins"))
            held.drop("tens")

        bench = small_bench()
        for work in (through, late, lambda held: held.attempt(through), lambda held: held.attempt(late)):
            ahead = repr(state(bench))
            with self.assertRaises(NoName):
                bench.attempt(work)
            self.assertEqual(repr(state(bench)), ahead)
        self.assertEqual(bench.attempt(caught), 5)
        self.assertEqual((bench.log[-1], "coins" in bench), (("drop", "tens"), True))

    def test_it_is_no_edit(self):
        bench = small_bench()
        bench.drop("tens")
        bench.undo()
        bench.attempt(lambda held: held.exact_of("tens", "coins"))
        self.assertEqual((bench.version, bench.redo()), (4, 5))


class AsksTest(BenchCase):
    def asked(self, bench, word, *told):
        """By place and by name; the second ask makes nothing."""
        first = getattr(bench, word)(*told)
        made = bench.made
        self.assertEqual(repr(getattr(bench, word)(**dict(zip(ARGUMENTS[word], told)))), repr(first))
        self.assertEqual(bench.made, made)
        return first

    def test_what_is_told(self):
        for scale, bag in itertools.product(SCALES, BAGS):
            bench = Bench()
            bench.keep("s", "scale", scale)
            bench.keep("b", "bag", bag)
            self.assertEqual(repr(self.asked(bench, "exact_of", "s", "b")), repr(exact(scale, bag)))
            self.assertEqual(repr(self.asked(bench, "ladder_of", "s")), repr(ladder(scale)))
            self.assertEqual(repr((bench.made, bench.version)), "(2, 2)")

    def test_errors_in_order(self):
        bench = small_bench()
        for word, told, error in (
            ("exact_of", ("nowhere", "coins"), NoName("nowhere")), ("exact_of", ("nowhere", "nothing"), NoName("nowhere")),
            ("exact_of", ("tens", "nothing"), NoName("nothing")), ("exact_of", ("coins", "nothing"), NoName("nothing")),
            ("exact_of", ("coins", "tens"), Unfit()), ("exact_of", ("coins", "coins"), Unfit()), ("exact_of", ("tens", "tens"), Unfit()),
            ("exact_of", ("hollow", "free"), Unfit()), ("exact_of", ("free", "free"), Unfit()), ("exact_of", ("hollow", "hollow"), Unfit()),
        ):
            self.assertRefused(error, bench, word, *told)
        for name, error in (("nowhere", NoName("nowhere")), ("coins", Unfit()), ("hollow", Unfit())):
            self.assertRefused(error, bench, "ladder_of", name)
        for value in wild_values():
            self.assertRefused(NoName(value), bench, "exact_of", value, "coins")
            self.assertRefused(NoName(value), bench, "exact_of", "coins", value)
            self.assertRefused(NoName(value), bench, "ladder_of", value)
        self.assertEqual(bench.made, 0)

    def test_made_once_for_equal_things(self):
        bench = small_bench()
        bench.keep("twin", "scale", tuple(list(TENS)))
        bench.keep("purse", "bag", tuple(list(COINS)))
        counts = []
        for word, told in (
            ("exact_of", ("tens", "coins")), ("exact_of", ("twin", "coins")), ("exact_of", ("twin", "purse")), ("exact_of", ("tens", "purse")),
            ("ladder_of", ("tens",)), ("ladder_of", ("twin",)), ("exact_of", ("free", "coins")), ("exact_of", ("tens", "hollow")),
            ("exact_of", ("free", "hollow")), ("ladder_of", ("free",)), ("exact_of", ("free", "purse")), ("ladder_of", ("twin",)),
        ):
            self.asked(bench, word, *told)
            counts.append(bench.made)
        self.assertEqual(counts, [1, 1, 1, 1, 2, 2, 3, 4, 5, 6, 6, 6])

    def test_kept_through_edits_undos_and_errors(self):
        bench = small_bench()
        self.asked(bench, "exact_of", "tens", "coins")
        self.asked(bench, "ladder_of", "tens")
        bench.rule_taken("tens")
        self.asked(bench, "exact_of", "tens", "coins")
        self.assertEqual(bench.made, 3)
        bench.undo()
        self.asked(bench, "exact_of", "tens", "coins")
        bench.redo()
        self.asked(bench, "exact_of", "tens", "coins")
        bench.undo()
        bench.drop("tens")
        bench.keep("other", "scale", TENS)
        self.assertRefused(NoName("tens"), bench, "ladder_of", "tens")
        self.asked(bench, "ladder_of", "other")
        self.asked(bench, "exact_of", "other", "coins")
        self.assertRefused(Rejected(1), bench, "batch", (("drop", "other"), ("drop", "other")))
        self.asked(bench, "exact_of", "other", "coins")
        self.assertEqual(bench.made, 3)
        # Things that are alike, but not equal, are made apart.
        bench.keep("turned", "scale", TENS[::-1])
        self.assertEqual(self.asked(bench, "ladder_of", "turned"), ladder(TENS))
        self.assertEqual(bench.made, 4)

    def test_asks_are_no_edits(self):
        bench = small_bench()
        bench.undo()
        ahead = state(bench)
        bench.ladder_of("tens")
        bench.exact_of("free", "coins")
        behind = state(bench)
        self.assertEqual(ahead[:3] + ahead[4:], behind[:3] + behind[4:])
        self.assertEqual(bench.redo(), 4)


class ModelTest(BenchCase):
    def test_against_the_document(self):
        """Long rows of edits, undos and redos, right and refused, against a bench that is told plainly."""
        source = random.Random(269)
        told = set()
        for _ in range(60):
            bench, model = Bench(), PlainBench()
            back = source.choice((0.02, 0.12))
            for _ in range(source.choice((10, 60, 200))):
                step = source.random()
                if step < back:
                    self.check_both(told, bench.undo, model.undo)
                elif step < 2 * back:
                    self.check_both(told, bench.redo, model.redo)
                else:
                    edit = random_edit(source)
                    self.check_both(told, lambda: done(bench, edit), lambda: model.edit(*edit))
                self.assertEqual(repr((bench.shelf, bench.log)), repr((model.shelf(), model.log())))
            self.assertEqual([bench.at(version) for version in range(bench.version + 1)], [model.shelf(k) for k in range(len(model.rows))])
        self.assertLessEqual({
            "BadBag", "BadBatch", "BadScale", "NoName", "NothingToRedo", "NothingToUndo", "Rejected", "Taken", "TooMany", "TooManyEdits", "Unfit", "int",
        }, told)

    def check_both(self, told, one, other):
        answers = []
        for call in (one, other):
            try:
                answers.append(call())
            except ExactError as error:
                answers.append((type(error).__name__, vars(error)))
        self.assertEqual(repr(answers[0]), repr(answers[1]))
        told.add(answers[0][0] if isinstance(answers[0], tuple) else "int")


class WhatHoldsTest(BenchCase):
    def test_shelves_are_told_as_described(self):
        for bench in random_benches():
            self.assertLessEqual(len(bench), 8)
            self.assertEqual(list(bench.shelf), sorted(bench.shelf, key=lambda pair: pair[0]))
            self.assertEqual(len({name for name, _ in bench.shelf}), len(bench))
            self.assertEqual(bench.at(bench.version), bench.shelf)
            self.assertEqual(len(bench.log), bench.version)
            self.assertEqual(bench.at(0), ())

    def test_a_shell_is_no_bench(self):
        self.assertIs(Bench() == Shell(), False)


if __name__ == "__main__":
    unittest.main()
