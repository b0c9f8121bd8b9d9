"""Logs: the texts of the edits of benches, a line for each."""

from everyexact.benches import Bench
from everyexact.bounds import MAX_NEST
from everyexact.decimals import read_integer
from everyexact.errors import BadLog, ExactError
from everyexact.shelves import LETTERS, is_edit
from everyexact.values import is_number

MAX_WORD = 10


def log_text(edits):
    """The texts of edit tuples, each with a line feed behind it."""
    return "".join([text_of(edit) + "\n" for edit in edits])


def text_of(value):
    """The text of an integer, of a word, or of a tuple of these and of such tuples."""
    if not isinstance(value, tuple):
        return str(value)
    return "(" + ",".join([text_of(item) for item in value]) + ")"


def read_log(value):
    """The edit tuples of which the lines of value are the texts; BadLog if one is the text of none."""
    if not isinstance(value, str):
        raise BadLog(0)
    # Behind the last line feed there is no line.
    lines = value.split("\n")[:-1]
    return tuple([read_line(place, line) for place, line in enumerate(lines)])


def read_line(place, line):
    """The edit tuple of which line, at this place of a log, is the text; BadLog if it is that of none."""
    # The tuples that are open, each to stand in the one ahead; the first row is to get the whole.
    rows = [[]]
    for at, piece in enumerate(line.split(",")):
        # Where nothing is open any more the whole was read, so nothing may come.
        if at > 0 and len(rows) == 1:
            raise BadLog(place)
        read_piece(place, rows, piece)
    if len(rows) > 1 or not is_edit(rows[0][0]):
        raise BadLog(place)
    return rows[0][0]


def read_piece(place, rows, piece):
    """Takes what stands between two commas into rows: brackets that open, an integer or a word, brackets that close."""
    inner = piece.lstrip("(")
    text = inner.rstrip(")")
    opened = len(piece) - len(inner)
    closed = len(inner) - len(text)
    deep = len(rows) - 1 + opened
    if deep > MAX_NEST or closed > deep:
        raise BadLog(place)
    rows.extend([[] for _ in range(opened)])
    if text != "":
        rows[-1].append(read_atom(place, text))
    elif opened == 0 or closed == 0:
        # Only a bracket that closes at once may have nothing in it.
        raise BadLog(place)
    for _ in range(closed):
        row = rows.pop()
        rows[-1].append(tuple(row))


def read_atom(place, text):
    """The integer or the word of which this is the text; BadLog if it is that of none."""
    number = read_integer(text)
    if is_number(number):
        return number
    if len(text) > MAX_WORD or not all([sign in LETTERS or sign == "_" for sign in text]):
        raise BadLog(place)
    return text


def bench_behind(edits):
    """A bench by which all these edit tuples were done; BadLog if one is refused."""
    bench = Bench()
    for place, edit in enumerate(edits):
        try:
            bench.do(edit)
        except ExactError:
            raise BadLog(place)
    return bench
