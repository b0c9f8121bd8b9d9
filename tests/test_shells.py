import itertools
import random
import unittest

from everyexact.bags import looks
from everyexact.benches import Bench
from everyexact.errors import ExactError, NoName
from everyexact.scales import fits
from everyexact.scaletexts import read_scale, scale_text
from everyexact.shells import Shell
from tests.bench_samples import BAGS, RIGHT_NAMES, SCALES, wild_values
from tests.calling import ExampleCase
from tests.samples import GREAT, TENS

EXAMPLES_L7 = """
    >>> from everyexact.shells import Shell
    >>> s = Shell()
    >>> [s.say("scale tens 99/10 999/100 9999/0"), s.say("bag coins"), s.say("kind coins 2 0,50"), s.say("names"), s.say("show coins"), s.say("show tens")]
    ['version 1', 'version 2', 'version 3', 'coins tens', 'bag 2*0,50', 'scale 99/10 999/100 9999/0']
    >>> [s.say("exact tens coins"), s.say("looks coins"), s.say("fits tens 105"), s.say("ladder tens"), s.say("made")]
    ['yes', '0 50 100', 'no', '99/10 990/100 9800/9900 9900/0', '2']
    >>> [s.say("rule tens 5 1"), s.say("unrule coins"), s.say("kind coins 0 0,5"), s.say("exact coins tens"), s.say("undo"), s.say("exact tens coins")]
    ['error BadScale', 'error Unfit', 'error BadBag', 'error Unfit', 'version 2', 'yes']
    >>> [s.say("scale twos 9/x"), s.say("scale twos"), s.say("scale all "), s.say("ladder all"), s.say("kind coins 2 0,05"), s.say("show four"), s.say(7)]
    ['error BadText', 'what', 'version 3', 'none', 'what', 'error NoName', 'what']
"""

LOOKED = ("names", "made", "show tens", "show coins", "show free", "show hollow", "show a", "undo", "redo")


def small_shell():
    shell = Shell()
    for line in ("scale tens 99/10 999/100 9999/0", "bag coins", "kind coins 2 0,50", "scale free ", "bag hollow"):
        shell.say(line)
    return shell


def seen(shell):
    """What the shell tells of itself; all that is taken back is done again, so the shell stays as it is."""
    return [shell.say(line) for line in LOOKED]


class ShellCase(unittest.TestCase):
    def assertSays(self, expected, shell, line):
        self.assertEqual(repr(shell.say(line)), repr(expected))

    def assertTells(self, expected, shell, line):
        """The answer is this one, by place and by name, twice, and nothing changes."""
        ahead = seen(shell)
        for _ in range(2):
            self.assertEqual(repr((shell.say(line), shell.say(line=line))), repr((expected, expected)))
        self.assertEqual(seen(shell), ahead)


class ExamplesTest(ExampleCase):
    def test_examples(self):
        self.assertEqual(self.run_examples(EXAMPLES_L7, {}), 6)


class EditLinesTest(ShellCase):
    def test_scale(self):
        for name in RIGHT_NAMES:
            for scale in SCALES:
                shell = Shell()
                self.assertSays("version 1", shell, f"scale {name} {scale_text(scale)}")
                self.assertSays("scale " + scale_text(scale), shell, f"show {name}")
                self.assertSays(name, shell, "names")

    def test_scale_errors(self):
        shell = small_shell()
        for line, expected in (
            ("scale a 7/1", "BadText"), ("scale a 7/x", "BadText"), ("scale a  7/2", "BadText"), ("scale a 7/2 ", "BadText"), ("scale a \n", "BadText"),
            ("scale a 7/2\n", "BadText"), ("scale a 07/2", "BadText"), ("scale a 7/2  8/2", "BadText"), ("scale a none", "BadText"), ("scale a ()", "BadText"),
            ("scale tens 7/1", "BadText"), ("scale none 7/1", "BadText"), ("scale Big x y z", "BadText"), ("scale none 7/2", "Unfit"), ("scale Big 7/2", "Unfit"),
            ("scale abcdefghi ", "Unfit"), ("scale none ", "Unfit"), ("scale a1 ", "Unfit"), ("scale tens 7/2", "Taken"), ("scale coins ", "Taken"),
            ("scale a\nb 7/2", "Unfit"), ("scale \n ", "Unfit"), ("scale a 7/" + "9" * 5000, "BadText"), (f"scale a 0/{GREAT} 0/7", "BadText"),
        ):
            self.assertTells("error " + expected, shell, line)

    def test_bag_and_kinds(self):
        for name, bag in itertools.product(RIGHT_NAMES, BAGS):
            shell = Shell()
            self.assertSays("version 1", shell, f"bag {name}")
            self.assertSays("bag ", shell, f"show {name}")
            for version, (item, many) in enumerate(bag, start=2):
                self.assertSays(f"version {version}", shell, f"kind {name} {many} {','.join(map(str, item))}")
            text = " ".join(f"{many}*{','.join(map(str, item))}" for item, many in bag)
            self.assertSays("bag " + text, shell, f"show {name}")
            for version in range(len(bag)):
                self.assertSays(f"version {len(bag) + version + 2}", shell, f"unkind {name}")
            self.assertSays("bag ", shell, f"show {name}")
            self.assertTells("error Unfit", shell, f"unkind {name}")

    def test_rules(self):
        shell = Shell()
        lines = ("scale a ", "rule a 9999 0", "rule a 0 2", f"rule a {GREAT} {GREAT}", "unrule a", "rule a 7 7", "drop a")
        texts = ("", "9999/0", "9999/0 0/2", f"9999/0 0/2 {GREAT}/{GREAT}", "9999/0 0/2", "9999/0 0/2 7/7")
        for version, line in enumerate(lines, start=1):
            self.assertSays(f"version {version}", shell, line)
            self.assertSays("scale " + texts[version - 1] if version < 7 else "error NoName", shell, "show a")

    def test_errors_of_the_bench(self):
        shell = small_shell()
        for line, expected in (
            ("bag none", "Unfit"), ("bag A", "Unfit"), ("bag a-b", "Unfit"), ("bag abcdefghi", "Unfit"), ("bag tens", "Taken"), ("bag coins", "Taken"),
            ("drop nowhere", "NoName"), ("drop none", "NoName"), ("drop TENS", "NoName"), ("drop tens\n", "NoName"), ("drop \n", "NoName"),
            ("rule nowhere 5 2", "NoName"), ("rule coins 5 2", "Unfit"), ("rule tens 5 1", "BadScale"), ("rule tens -5 2", "BadScale"), ("rule tens 5 -2", "BadScale"),
            (f"rule tens {GREAT + 1} 2", "BadScale"), ("rule tens 5 " + "9" * 61, "BadScale"), (f"rule tens 5 {GREAT - 1}", "BadScale"),
            ("unrule nowhere", "NoName"), ("unrule coins", "Unfit"), ("unrule hollow", "Unfit"), ("unrule free", "Unfit"), ("unkind nowhere", "NoName"),
            ("unkind tens", "Unfit"), ("unkind free", "Unfit"), ("unkind hollow", "Unfit"), ("kind nowhere 1 0", "NoName"), ("kind tens 1 0", "Unfit"),
            ("kind coins 0 0,5", "BadBag"), ("kind coins 1 5", "BadBag"), ("kind coins 1 5,0", "BadBag"), ("kind coins 1 0,0", "BadBag"), ("kind coins -1 0", "BadBag"),
            ("kind coins 1 0," + "9" * 61, "BadBag"), ("kind coins " + "9" * 61 + " 0", "BadBag"), ("kind coins 1 " + ",".join(map(str, range(41))), "BadBag"),
        ):
            self.assertTells("error " + expected, shell, line)

    def test_eight_names_and_forty_edits(self):
        shell = Shell()
        for version, name in enumerate("abcdefgh", start=1):
            self.assertSays(f"version {version}", shell, f"bag {name}")
        self.assertSays("a b c d e f g h", shell, "names")
        self.assertTells("error TooMany", shell, "bag ninth")
        self.assertTells("error TooMany", shell, "scale ninth ")
        for version in range(9, 41):
            self.assertSays(f"version {version}", shell, "drop a" if version % 2 else "bag a")
        self.assertTells("error TooManyEdits", shell, "drop a")
        self.assertTells("error NoName", shell, "drop ninth")
        self.assertTells("error BadBag", shell, "kind a 0 0")

    def test_undo_and_redo(self):
        shell = Shell()
        self.assertSays("error NothingToUndo", shell, "undo")
        self.assertSays("error NothingToRedo", shell, "redo")
        shell.say("bag a")
        shell.say("bag b")
        told = [shell.say(line) for line in ("undo", "names", "undo", "names", "undo", "redo", "names", "redo", "names", "redo")]
        self.assertEqual(told, ["version 1", "a", "version 0", "none", "error NothingToUndo", "version 1", "a", "version 2", "a b", "error NothingToRedo"])
        self.assertEqual([shell.say(line) for line in ("undo", "bag c", "redo", "names")], ["version 1", "version 2", "error NothingToRedo", "a c"])


class AskLinesTest(ShellCase):
    def test_names_and_show(self):
        self.assertTells("none", Shell(), "names")
        shell = small_shell()
        self.assertTells("coins free hollow tens", shell, "names")
        for line, expected in (
            ("show tens", "scale 99/10 999/100 9999/0"), ("show coins", "bag 2*0,50"), ("show free", "scale "), ("show hollow", "bag "),
            ("show nowhere", "error NoName"), ("show none", "error NoName"), ("show tens\n", "error NoName"),
        ):
            self.assertTells(expected, shell, line)

    def test_exact_ladder_and_made(self):
        shell, bench = Shell(), Bench()
        # As many as a bench has names.
        for name, (sort, value) in zip("abcdefgh", [("scale", value) for value in SCALES[:4]] + [("bag", value) for value in BAGS[:4]]):
            bench.keep(name, sort, value)
            shell.say(f"scale {name} {scale_text(value)}" if sort == "scale" else f"bag {name}")
            for item, many in value if sort == "bag" else ():
                shell.say(f"kind {name} {many} {','.join(map(str, item))}")
        for name, other in itertools.product("abcdefghx", repeat=2):
            self.assertSays(self.told(lambda: "yes" if bench.exact_of(name, other) else "no"), shell, f"exact {name} {other}")
            self.assertSays(self.told(lambda: scale_text(bench.ladder_of(name)) or "none"), shell, f"ladder {name}")
            self.assertTells(str(bench.made), shell, "made")

    def told(self, ask):
        try:
            return ask()
        except ExactError as error:
            return "error " + type(error).__name__

    def test_order_of_errors(self):
        shell = small_shell()
        for line, expected in (
            ("exact x coins", "error NoName"), ("exact tens x", "error NoName"), ("exact coins x", "error NoName"), ("exact coins tens", "error Unfit"),
            ("exact tens tens", "error Unfit"), ("exact coins coins", "error Unfit"), ("ladder x", "error NoName"), ("ladder coins", "error Unfit"),
            ("fits x 5", "error NoName"), ("fits coins 5", "error Unfit"), ("fits hollow 5", "error Unfit"), ("looks x", "error NoName"),
            ("looks tens", "error Unfit"), ("looks free", "error Unfit"),
        ):
            self.assertTells(expected, shell, line)
        self.assertSays("none", shell, "ladder free")
        self.assertSays("yes", shell, "exact free hollow")
        self.assertTells("2", shell, "made")

    def test_fits(self):
        shell = small_shell()
        for number in list(range(-120, 121)) + [990, 1010, -1100, 9999, 10000, GREAT, -GREAT, 10 ** 61 - 1, 1 - 10 ** 61]:
            self.assertSays("yes" if fits(TENS, number) else "no", shell, f"fits tens {number}")
            self.assertSays("yes", shell, f"fits free {number}")
        self.assertTells("yes", shell, "fits tens -110")
        self.assertTells("what", shell, f"fits tens {10 ** 61}")
        self.assertTells("what", shell, f"fits tens {-10 ** 61}")

    def test_looks(self):
        for bag in BAGS:
            shell = Shell()
            shell.say("bag a")
            for item, many in bag:
                shell.say(f"kind a {many} {','.join(map(str, item))}")
            self.assertTells(" ".join(map(str, looks(bag))), shell, "looks a")


class WhatTest(ShellCase):
    # Each line that is told, right.
    RIGHT = (
        "scale a 7/2", "bag a", "drop tens", "rule tens 5 7", "unrule tens", "kind coins 1 0,5", "kind coins 1 0", "unkind coins", "undo", "names", "show tens",
        "exact tens coins", "ladder tens", "made", "fits tens 5", "looks coins",
    )

    def test_right_lines(self):
        for line in self.RIGHT:
            self.assertNotEqual(small_shell().say(line), "what")
            self.assertFalse(small_shell().say(line).startswith("error"), line)

    def test_blanks(self):
        for line in self.RIGHT + ("redo",):
            words = line.split(" ")
            for at in range(len(words) + 1):
                # An empty word more: a blank ahead, behind, or two between.
                self.check_what(words[:at] + [""] + words[at:], line)
            for at in range(1, len(words)):
                self.check_what(words[:at - 1] + [words[at - 1] + words[at]] + words[at + 1:], line)
                self.check_what(words[:at - 1] + [words[at - 1] + "\n" + words[at]] + words[at + 1:], line)

    def check_what(self, words, line):
        wrong = " ".join(words)
        # Behind its name a scale has any text.
        if not (words[0] == "scale" and len(words) > 2 and words[1] != ""):
            self.assertTells("what", small_shell(), wrong)
        else:
            self.assertTells("error BadText", small_shell(), wrong)

    def test_words_more_and_fewer(self):
        for line in self.RIGHT + ("redo",):
            words = line.split(" ")
            if words[0] != "scale":
                self.assertTells("what", small_shell(), line + " 5")
                self.assertTells("what", small_shell(), line + " tens")
            for many in range(1, len(words)):
                self.assertTells("what", small_shell(), " ".join(words[:many]))
                if words[0] != "scale" or many == 1:
                    self.assertTells("what", small_shell(), " ".join(words[:many]) + " ")

    def test_words_that_are_none(self):
        for line in (
            "", " ", "\n", "what", "Scale a 7/2", "SCALE a 7/2", "undo\n", "\nundo", "names\n", "made\n", "Undo", "und", "undoo", "names names", "keep a scale ()",
            "rule_put tens 5 7", "batch ()", "at 0", "copy", "version", "exact", "show", "x" * 20000, "undo" * 5000, "version 1", "error", "None", "7", "scale", "bag",
            "scales a 7/2", "\tundo", "names;", "exact_of tens coins",
        ):
            self.assertTells("what", small_shell(), line)

    def test_integers(self):
        for text in (
            "", "-", "--5", "+5", "-0", "00", "05", "-05", "5.0", "5a", "a", "x5", "0x5", "5_0", "1e3", "five", "5,", ",5", "5\n", "\n5", "9" * 62,
            "-" + "9" * 62, "1" + "0" * 61, "0" * 61, "9" * 5000, "(5)", "None", "True",
        ):
            shell = small_shell()
            for line in (f"fits tens {text}", f"rule tens {text} 7", f"rule tens 5 {text}", f"kind coins {text} 0,5", f"kind coins 1 {text}",
                         f"kind coins 1 0,{text}", f"kind coins 1 {text},5", f"kind coins 1 -5,{text},0", f"fits x {text}", f"rule x {text} 7"):
                if (text, line) != ("5,", "kind coins 1 5,"):
                    self.assertTells("what", shell, line)
        shell = small_shell()
        for line, expected in (
            ("fits tens " + "9" * 61, "no"), ("fits tens -" + "9" * 61, "no"), ("fits tens 0", "yes"), ("fits tens -5", "yes"), (f"fits free {10 ** 60}", "yes"),
        ):
            self.assertTells(expected, shell, line)

    def test_names_that_are_empty(self):
        for line in (
            "scale  7/2", "scale  ", "scale ", "bag ", "drop ", "rule  5 7", "unrule ", "kind  1 0,5", "unkind ", "show ", "exact  coins", "exact tens ", "exact  ",
            "ladder ", "fits  5", "looks ",
        ):
            self.assertTells("what", small_shell(), line)

    def test_names_that_are_none(self):
        """Any text without a blank is a NAME: the bench does not have it."""
        for name in ("none", "A", "a1", "a\nb", "\n", "()", "x" * 5000, "7", "-", "scale", "a,b", "tens\n", "\\"):
            for line in ("drop {}", "rule {} 5 7", "unrule {}", "kind {} 1 0,5", "unkind {}", "show {}", "exact {} coins", "exact tens {}", "ladder {}", "fits {} 5", "looks {}"):
                self.assertTells("error NoName", small_shell(), line.format(name))

    def test_no_strings(self):
        shell = small_shell()
        for value in wild_values() + [b"names", ["names"], ("names",), {"names": 1}]:
            if not isinstance(value, str):
                self.assertTells("what", shell, value)
            else:
                self.assertIs(type(shell.say(value)), str)


class ShellsTest(ShellCase):
    def test_two_shells_do_not_meet(self):
        one, other = small_shell(), Shell()
        self.assertEqual(other.say("names"), "none")
        ahead = seen(one)
        other.say("bag tens")
        other.say("kind tens 1 0,7")
        self.assertEqual(seen(one), ahead)
        one.say("ladder tens")
        self.assertEqual((one.say("made"), other.say("made")), ("1", "0"))
        self.assertEqual(other.say("show tens"), "bag 1*0,7")

    def test_equal_shells_say_the_same(self):
        source = random.Random(281)
        for _ in range(30):
            one, other, bench = Shell(), Shell(), Bench()
            for _ in range(60):
                line = self.random_line(source)
                told = one.say(line)
                self.assertEqual(repr(told), repr(other.say(line)))
                self.assertEqual(repr(told), repr(self.plainly(bench, line)))

    def random_line(self, source):
        name, other = source.choice("abcdx"), source.choice("abcdx")
        number = source.choice((-7, 0, 1, 2, 5, 10, 99, 100, 105, GREAT))
        return source.choice((
            f"scale {name} 99/10 999/0", f"scale {name} ", f"scale {name} 7/1", f"bag {name}", f"bag {name}", f"drop {name}", f"rule {name} {number} {source.randrange(9)}",
            f"unrule {name}", f"kind {name} {number} 0,{number}", f"kind {name} 2 -5,0", f"unkind {name}", "undo", "redo", "names", f"show {name}",
            f"exact {name} {other}", f"ladder {name}", "made", f"fits {name} {number}", f"looks {name}", "names ", f"show  {name}", "",
        ))

    def plainly(self, bench, line):
        """What the line comes to, told by the bench itself."""
        word, *told = line.split(" ")
        if "" in told and word != "scale" or line == "":
            return "what"
        try:
            return self.plain_answer(bench, word, *told)
        except ExactError as error:
            return "error " + type(error).__name__

    def plain_answer(self, bench, word, *told):
        if word in ("undo", "redo"):
            return f"version {getattr(bench, word)()}"
        if word == "names":
            return " ".join(bench) if len(bench) else "none"
        if word == "made":
            return str(bench.made)
        name, *rest = told
        if word == "scale":
            return f"version {bench.keep(name, 'scale', read_scale(' '.join(rest)))}"
        if word == "bag":
            return f"version {bench.keep(name, 'bag', ())}"
        if word == "rule":
            return f"version {bench.rule_put(name, tuple(map(int, rest)))}"
        if word == "kind":
            return f"version {bench.kind_put(name, tuple(map(int, rest[1].split(','))), int(rest[0]))}"
        if word in ("drop", "unrule", "unkind"):
            return f"version {getattr(bench, {'drop': 'drop', 'unrule': 'rule_taken', 'unkind': 'kind_taken'}[word])(name)}"
        return self.plain_tale(bench, word, name, *rest)

    def plain_tale(self, bench, word, name, *rest):
        if word == "exact":
            return "yes" if bench.exact_of(name, rest[0]) else "no"
        if word == "ladder":
            return scale_text(bench.ladder_of(name)) or "none"
        if name not in bench:
            raise NoName(name)
        sort, value = bench[name]
        if word == "show":
            kinds = [f"{many}*{','.join(map(str, item))}" for item, many in value] if sort == "bag" else [scale_text(value)]
            return f"{sort} {' '.join(kinds)}"
        if sort != ("scale" if word == "fits" else "bag"):
            return "error Unfit"
        return ("yes" if fits(value, int(rest[0])) else "no") if word == "fits" else " ".join(map(str, looks(value)))


if __name__ == "__main__":
    unittest.main()
