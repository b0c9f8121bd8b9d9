import random
import re
import unittest

from everyexact.benches import Bench
from everyexact.errors import BadLog
from everyexact.logs import bench_behind, log_text, read_log
from tests.bench_samples import EXAMPLES_L5, WRONG_NAMES, filled, random_benches, random_edit, small_bench, state, wild_values
from tests.calling import CallCase, ExampleCase
from tests.plain_bench import PARTS
from tests.samples import GREAT, MANY, WIDE, nested

EXAMPLES_L6 = r"""
    >>> from everyexact.logs import bench_behind, log_text, read_log
    >>> log_text(b.log[1:]), log_text((("batch", ()),))
    ('(keep,coins,bag,(((0,50),2)))\n(rule_taken,tens)\n(rule_put,tens,(9999,0))\n', '(batch,())\n')
    >>> read_log(log_text(b.log)) == b.log, bench_behind(b.log) == b, read_log("(drop,tens)\n(drop,t")
    (True, True, (('drop', 'tens'),))
    >>> read_log("(drop,tens)\n(kind_taken,07)\n")
    raises BadLog(1)
    >>> bench_behind((("drop", "tens"),))
    raises BadLog(0)
"""

WORDS = {**PARTS, "batch": 1}


def plain_item(text, at, deep):
    """What begins at this place of text, and where it ends; None if nothing right does."""
    if text[at:at + 1] == "(":
        if deep == 20:
            return None
        items, at = [], at + 1
        if text[at:at + 1] == ")":
            return (), at + 1
        while True:
            found = plain_item(text, at, deep + 1)
            if found is None:
                return None
            items.append(found[0])
            at = found[1] + 1
            if text[at - 1:at] == ")":
                return tuple(items), at
            if text[at - 1:at] != ",":
                return None
    word = re.match(r"0|-?[1-9][0-9]*|[a-z_]+", text[at:], re.ASCII)
    if word is None:
        return None
    told = word.group()
    if told[-1].isdigit():
        return (int(told), at + len(told)) if len(told) < 70 and abs(int(told)) <= GREAT else None
    return (told, at + len(told)) if len(told) <= 10 else None


def plain_line(line):
    """The edit tuple of a line, None if it is the text of none."""
    found = plain_item(line, 0, 0)
    if found is None or found[1] != len(line) or type(found[0]) is not tuple or not found[0] or type(found[0][0]) is not str:
        return None
    return found[0] if WORDS.get(found[0][0]) == len(found[0]) - 1 else None


def plain_text(value):
    if type(value) is tuple:
        return "(" + ",".join(map(plain_text, value)) + ")"
    return str(value)


# Edit tuples with texts, whatever their arguments are.
EDITS = (
    ("drop", "tens"), ("drop", 5), ("drop", ()), ("drop", ((), (), ((),))), ("keep", (), "a_b", -7), ("keep", "a", "scale", ((99, 10), (999, 0))),
    ("keep", "none", "bag", (((0, 50), 2),)), ("rule_put", GREAT, -GREAT), ("rule_taken", "abcdefghij"), ("kind_put", "_", "__________", 0),
    ("kind_taken", ("batch", ())), ("batch", ()), ("batch", (("drop", "a"), ("batch", 1))), ("batch", "x"), ("rule_put", "a", (0, 2)), ("drop", -1),
    ("kind_put", "purse", WIDE, MANY), ("drop", (((1, (2, 3)), 4), ())), ("keep", "keep", "keep", "keep"),
)


class ExamplesTest(ExampleCase):
    def test_examples(self):
        self.assertEqual(self.run_examples(EXAMPLES_L5 + EXAMPLES_L6, {}), 15)


class TextTest(CallCase):
    def test_each_edit(self):
        for edit in EDITS:
            text = plain_text(edit) + "\n"
            self.assertCall(text, log_text, edits=(edit,))
            self.assertCall((edit,), read_log, value=text)

    def test_rows_of_edits(self):
        source = random.Random(271)
        self.assertCall("", log_text, edits=())
        self.assertCall((), read_log, value="")
        for many in range(1, 41):
            edits = tuple(source.choice(EDITS) for _ in range(many))
            self.assertCall("".join(plain_text(edit) + "\n" for edit in edits), log_text, edits=edits)
            self.assertCall(edits, read_log, value=log_text(edits))

    def test_unlike_rows_have_unlike_texts(self):
        rows = [()] + [(one,) for one in EDITS] + [(one, other) for one in EDITS for other in EDITS]
        rows += [(("drop", value),) for value in (1, 10, -1, "a", "aa", ("a",), ("aa",), ("a", "a"), (("a",), "a"), ("a", ("a",)), (1, 0), ((),), ((), ()), (((),),))]
        self.assertEqual(len({log_text(row) for row in rows}), len(set(rows)))

    def test_there_and_back(self):
        for bench in random_benches() + [small_bench(), filled(small_bench())]:
            text = log_text(bench.log)
            self.assertEqual(text, "".join(plain_text(edit) + "\n" for edit in bench.log))
            self.assertEqual(repr(read_log(text)), repr(bench.log))
            behind = bench_behind(read_log(text))
            self.assertTrue(behind == bench)
            self.assertEqual(repr((behind.shelf, behind.version, behind.log)), repr((bench.shelf, bench.version, bench.log)))
            self.assertEqual([behind.at(k) for k in range(behind.version + 1)], [bench.at(k) for k in range(bench.version + 1)])

    def test_a_great_log(self):
        bench = Bench()
        bag = (((-GREAT,) + tuple(range(0, 38)) + (GREAT,), MANY),) * 12
        for version in range(1, 41):
            bench.batch((("keep", "a", "bag", bag), ("drop", "a")) * 6)
        text = log_text(bench.log)
        self.assertGreater(len(text), 400000)
        self.assertEqual(read_log(text), bench.log)
        self.assertEqual(repr(state(bench_behind(bench.log))), repr(state(bench)))


class ReadLogTest(CallCase):
    def check_text(self, text):
        """Line by line as the grammar tells it: the edit tuples, or the place of the first line that is none."""
        found = [plain_line(line) for line in text.split("\n")[:-1]]
        if None in found:
            with self.assertRaises(BadLog) as held:
                read_log(text)
            self.assertEqual(repr(vars(held.exception)), repr({"place": found.index(None)}))
        else:
            self.assertEqual(repr(read_log(text)), repr(tuple(found)))
        return None not in found

    def test_cut_anywhere(self):
        for bench in random_benches(8):
            text = log_text(bench.log[:6])
            for many in range(len(text) + 1):
                lines = text[:many].count("\n")
                self.assertEqual(read_log(text[:many]), bench.log[:lines])

    def test_what_stands_behind_the_last_line_feed(self):
        for rest in ("", "(", "((((", "(drop,07)", "x" * 10000, "\\", "(drop,a)", ")", "(drop,a" + "(" * 50):
            self.assertCall((), read_log, value=rest)
            self.assertCall((("drop", "a"),), read_log, value="(drop,a)\n" + rest)

    def test_each_sign_turned_left_out_and_put_in(self):
        told = [0, 0]
        text = "".join(plain_text(edit) + "\n" for edit in EDITS if edit[0] != "kind_put") + "(kind_put,ab,(-12,0,305),40)\n"
        signs = "()," + "\n" + "ab_z0 19-+AZ{`.;" + "\\"
        for at in range(len(text) + 1):
            told[self.check_text(text[:at] + text[at + 1:])] += 1
            for sign in signs:
                told[self.check_text(text[:at] + sign + text[at + 1:])] += 1
                told[self.check_text(text[:at] + sign + text[at:])] += 1
        self.assertGreater(min(told), 500)

    def test_signs_put_anywhere_in_short_lines(self):
        signs = "(),a1"
        rows = [""]
        for _ in range(6):
            rows = [row + sign for row in rows for sign in signs]
            for row in rows:
                self.check_text(f"(drop,{row})\n")

    def test_integers(self):
        for text, expected in (
            ("0", 0), ("7", 7), ("-7", -7), ("10", 10), (str(GREAT), GREAT), (str(-GREAT), -GREAT), ("1" + "0" * 60, GREAT), ("9" * 60, GREAT - 1),
            (str(GREAT + 1), None), (str(-GREAT - 1), None), ("9" * 61, None), ("1" + "0" * 61, None), ("9" * 6000, None), ("07", None), ("00", None),
            ("-0", None), ("-07", None), ("+7", None), ("--7", None), ("-", None), ("7-", None), ("1_0", None), ("1.0", None), ("0x1", None),
            (" 7", None), ("7 ", None), ("1e3", None), ("7a", None), ("a7", None), ("-a", None), ("0" * 60 + "7", None), ("-" + "9" * 61, None),
        ):
            line = f"(drop,{text})\n"
            if expected is None:
                self.assertFails(BadLog(0), read_log, value=line)
                self.assertFails(BadLog(1), read_log, value="(batch,())\n" + line)
            else:
                self.assertCall((("drop", expected),), read_log, value=line)
                self.assertCall(line, log_text, edits=(("drop", expected),))

    def test_words(self):
        for word in ("a", "z", "_", "abcdefghij", "__________", "a_b", "_a", "none", "true", "keep", "batch"):
            self.assertCall((("drop", word),), read_log, value=f"(drop,{word})\n")
        for word in ("abcdefghijk", "_" * 11, "a" * 5000, "A", "aB", "a b", "a-b", "a.b", "'a'", "\"a\"", "a\\", "{", "`", "[a]", "@"):
            self.assertFails(BadLog(0), read_log, value=f"(drop,{word})\n")

    def test_brackets(self):
        for many in range(1, 20):
            value = nested(many, lambda value: (value,))
            self.assertCall((("drop", value),), read_log, value=log_text((("drop", value),)))
            if many < 19:
                self.assertCall((("batch", (7, value)),), read_log, value=log_text((("batch", (7, value)),)))
        for many in (19, 20, 21, 50, 5000):
            for inner in ("0", "", "a", "(),()", "0,1"):
                text = "(drop," + "(" * many + inner + ")" * many + ")\n"
                deep = many + 1 + ("(" in inner)
                if deep <= 20:
                    self.assertEqual(log_text(read_log(text)), text)
                else:
                    self.assertFails(BadLog(0), read_log, value=text)
        # Nineteen brackets of its own with that of the edit tuple are twenty, one beside the other.
        text = "(kind_put," + ",".join(["(" * 19 + ")" * 19] * 3) + ")\n"
        self.assertEqual(log_text(read_log(text)), text)
        self.assertFails(BadLog(0), read_log, value="(kind_put," + ",".join(["(" * 19 + ")" * 19] * 2 + ["(" * 20 + ")" * 20]) + ")\n")
        for line in ("(" * 20000, ")" * 20000, "()" * 5000, "(drop," + "(" * 20000, "(drop,a" + ")" * 5000, "(drop,a))", "((drop,a)", "(drop,(a)", "(drop,a)(drop,a)"):
            self.assertFails(BadLog(0), read_log, value=line + "\n")

    def test_empty_tuples(self):
        for text, value in (("()", ()), ("(())", ((),)), ("((),())", ((), ())), ("((()),a,())", (((),), "a", ())), ("(1,())", (1, ()))):
            self.assertCall((("drop", value),), read_log, value=f"(drop,{text})\n")
        for text in ("(,)", "(a,)", "(,a)", "((),)", "(,())", "", ",", "()()", "()a", "a()", "(a)b", ")(", "( )"):
            self.assertFails(BadLog(0), read_log, value=f"(drop,{text})\n")

    def test_lines_of_no_edit(self):
        for line in (
            "", "()", "drop", "drop,a", "a", "7", "(drop)", "(drop,a,b)", "(keep,a,bag)", "(keep,a,bag,(),())", "(rule_put,a)", "(rule_taken)",
            "(rule_taken,a,b)", "(kind_put,a,(0,5))", "(kind_taken)", "(batch)", "(batch,a,b)", "(undo)", "(redo)", "(undo,a)", "(at,0)", "(attempt,a)",
            "(7,a)", "((drop),a)", "((drop,a))", "(Drop,a)", "(drop_,a)", "(dro,a)", "(exact_of,a,b)", " (drop,a)", "(drop,a) ", "(drop, a)", "(drop,a);",
            "(drop,a),(drop,b)", "(do,a)", "(copy)",
        ):
            self.assertFails(BadLog(0), read_log, value=line + "\n")
            self.assertFails(BadLog(2), read_log, value="(drop,a)\n(batch,())\n" + line + "\n" + line + "\n(drop,a)\n")
            self.check_text(line + "\n")

    def test_arguments_are_not_asked(self):
        for line in ("(keep,7,none,a)", "(keep,(),(),())", "(drop,none)", "(rule_put,a,a)", "(kind_put,1,1,1)", "(batch,7)", "(batch,((drop),undo))"):
            self.assertEqual(log_text(read_log(line + "\n")), line + "\n")

    def test_the_first_line_that_is_refused(self):
        lines = ["(drop,a)", "(batch,())", "(rule_taken,b)", "(keep,a,bag,())", "(drop,7)"]
        for place in range(5):
            for wrong in ("", "(drop,07)", "x", "(", "(drop)"):
                text = "\n".join(lines[:place] + [wrong] + lines[place + 1:]) + "\n"
                self.assertFails(BadLog(place), read_log, value=text)
                self.assertFails(BadLog(place), read_log, value=text + wrong + "\n")

    def test_no_strings(self):
        for value in wild_values():
            if isinstance(value, str):
                self.check_text(value)
                self.check_text(value + "\n")
            else:
                with self.assertRaises(BadLog) as held:
                    read_log(value)
                self.assertEqual(repr(vars(held.exception)), "{'place': 0}")
        for value in (b"(drop,a)\n", ["(drop,a)\n"], ("(drop,a)\n",), None, ()):
            self.assertFails(BadLog(0), read_log, value=value)


class BenchBehindTest(CallCase):
    def test_new_benches(self):
        log = small_bench().log
        one, other = bench_behind(log), bench_behind(edits=log)
        self.assertIsNot(one, other)
        self.assertIs(type(one), Bench)
        self.assertEqual(repr(state(one)), repr(state(small_bench())))
        one.drop("tens")
        self.assertEqual(repr(state(other)), repr(state(small_bench())))
        self.assertEqual(repr(state(bench_behind(()))), repr(state(Bench())))

    def test_the_first_that_is_refused(self):
        log = small_bench().log
        for wrong in (
            ("drop", "nowhere"), ("keep", "tens", "bag", ()), ("keep", "none", "bag", ()), ("rule_put", "tens", (5,)), ("rule_put", "coins", (5, 2)),
            ("kind_put", "coins", (1, 2), 1), ("kind_taken", "hollow"), ("batch", (("drop", "nowhere"),)), ("batch", None), ("batch", (("undo",),)),
            ("drop", None), ("drop", []), ("keep", None, [], {}), ("rule_taken", ("tens",)), ("kind_put", "coins", "x", True), ("rule_taken", "free"),
        ):
            self.assertFails(BadLog(4), bench_behind, edits=log + (wrong,))
            self.assertFails(BadLog(4), bench_behind, edits=log + (wrong, wrong, ("drop", "tens")))
            self.assertFails(BadLog(5), bench_behind, edits=log + (("rule_put", "tens", (7, 7)), wrong))
        self.assertFails(BadLog(0), bench_behind, edits=(("drop", "tens"),))

    def test_any_arguments(self):
        for value in wild_values() + list(WRONG_NAMES):
            for word, many in WORDS.items():
                if (word, value) != ("batch", ()):
                    with self.assertRaises(BadLog) as held:
                        bench_behind((("batch", ()), (word,) + (value,) * many))
                    self.assertEqual(vars(held.exception), {"place": 1})

    def test_at_forty_edits(self):
        empty = ("batch", ())
        self.assertEqual(bench_behind((empty,) * 40).version, 40)
        self.assertFails(BadLog(40), bench_behind, edits=(empty,) * 41)
        self.assertFails(BadLog(40), bench_behind, edits=(empty,) * 50)
        self.assertFails(BadLog(3), bench_behind, edits=(empty,) * 3 + (("drop", "a"),) + (empty,) * 50)

    def test_random_rows(self):
        source = random.Random(277)
        for _ in range(200):
            edits = tuple(random_edit(source) for _ in range(source.randrange(12)))
            bench, expected = Bench(), None
            for place, edit in enumerate(edits):
                try:
                    getattr(bench, edit[0])(*edit[1:])
                except ValueError:
                    expected = place
                    break
            if expected is None:
                self.assertEqual(repr(state(bench_behind(edits))), repr(state(bench)))
            else:
                self.assertFails(BadLog(expected), bench_behind, edits=edits)


if __name__ == "__main__":
    unittest.main()
