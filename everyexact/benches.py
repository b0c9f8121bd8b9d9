"""Benches: scales and bags by names, with edits that can be taken back."""

from everyexact.bounds import MAX_EDITS
from everyexact.errors import ExactError, NothingToRedo, NothingToUndo, NoVersion, TooManyEdits
from everyexact.exactness import exact
from everyexact.ladders import ladder
from everyexact.shelves import edited, thing_of, value_of
from everyexact.values import is_integer


class Bench:
    """A shelf of scales and bags, the edits that stand, and those that were taken back."""

    def __init__(self):
        # What was made is kept by what was asked, so that things under whatever names share it.
        self._made = {}
        self._stand((), ())

    def _stand(self, done, back):
        """Lets these edits stand, and those be taken back: rows of pairs of an edit and the shelf behind it."""
        self._done = done
        self._back = back
        self._shelf = done[-1][1] if done else ()
        self._names = [name for name, _ in self._shelf]

    @property
    def shelf(self):
        return self._shelf

    @property
    def version(self):
        return len(self._done)

    @property
    def log(self):
        return tuple([edit for edit, _ in self._done])

    @property
    def made(self):
        return len(self._made)

    def __len__(self):
        return len(self._names)

    def __contains__(self, x):
        return x in self._names

    def __getitem__(self, at):
        return thing_of(self._shelf, at)

    def __iter__(self):
        return iter(self._names)

    def __eq__(self, other):
        return isinstance(other, Bench) and self.shelf == other.shelf

    def __ne__(self, other):
        return not self == other

    def keep(self, name, sort, value):
        """Puts a scale or a bag on the shelf; the new version."""
        return self.do(("keep", name, sort, value))

    def drop(self, name):
        """Takes a name and its thing off the shelf; the new version."""
        return self.do(("drop", name))

    def rule_put(self, name, rule):
        """Puts a rule behind all others of a scale; the new version."""
        return self.do(("rule_put", name, rule))

    def rule_taken(self, name):
        """Takes the last rule off a scale; the new version."""
        return self.do(("rule_taken", name))

    def kind_put(self, name, item, many):
        """Puts a kind behind all others of a bag; the new version."""
        return self.do(("kind_put", name, item, many))

    def kind_taken(self, name):
        """Takes the last kind off a bag; the new version."""
        return self.do(("kind_taken", name))

    def batch(self, edits):
        """Does all these edits as one, or none of them; the new version."""
        return self.do(("batch", edits))

    def do(self, edit):
        """Does the edit of an edit tuple; the new version."""
        shelf = edited(self._shelf, edit)
        if len(self._done) >= MAX_EDITS:
            raise TooManyEdits()
        self._stand(self._done + ((edit, shelf),), ())
        return self.version

    def undo(self):
        """Takes back the last edit that stands; the version then."""
        if len(self._done) == 0:
            raise NothingToUndo()
        self._stand(self._done[:-1], self._back + self._done[-1:])
        return self.version

    def redo(self):
        """Does the edit again that was taken back last; the version then."""
        if len(self._back) == 0:
            raise NothingToRedo()
        self._stand(self._done + self._back[-1:], self._back[:-1])
        return self.version

    def at(self, version):
        """The shelf when so many of the edits stood that stand now."""
        if not is_integer(version) or not 0 <= version <= self.version:
            raise NoVersion(version)
        return self._done[version - 1][1] if version > 0 else ()

    def copy(self):
        """Another bench that is now as this one is."""
        twin = Bench()
        twin._made = {ask: self._made[ask] for ask in self._made}
        twin._stand(self._done, self._back)
        return twin

    def attempt(self, work):
        """What work returns of this bench; behind an error of this package all edits are as they were."""
        done, back = self._done, self._back
        try:
            return work(self)
        except ExactError:
            self._stand(done, back)
            raise

    def exact_of(self, name, other):
        """Whether the bag of the name other is exact by the scale of the name name."""
        thing, second = self[name], self[other]
        ask = ("exact", value_of(thing, "scale"), value_of(second, "bag"))
        if ask not in self._made:
            self._made[ask] = exact(ask[1], ask[2])
        return self._made[ask]

    def ladder_of(self, name):
        """The ladder of a scale."""
        ask = ("ladder", value_of(self[name], "scale"))
        if ask not in self._made:
            self._made[ask] = ladder(ask[1])
        return self._made[ask]
