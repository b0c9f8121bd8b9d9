"""The errors of this package: all stand directly under ExactError."""


class ExactError(ValueError):
    """What each error of this package is."""


class Unfit(ExactError):
    """What was handed in is not such that this can be had of it."""


class BadText(ExactError):
    """A value is not the text of a scale."""


class BadScale(ExactError):
    """There would be no scale; error is what scale_error tells of it."""

    def __init__(self, error):
        super().__init__("no scale")
        self.error = error


class BadBag(ExactError):
    """There would be no bag; error is what bag_error tells of it."""

    def __init__(self, error):
        super().__init__("no bag")
        self.error = error


class TooMany(ExactError):
    """There are, or would be, more than limit."""

    def __init__(self, limit):
        super().__init__("more than the limit")
        self.limit = limit


class NoName(ExactError):
    """The shelf does not have the name given."""

    def __init__(self, given):
        super().__init__("no such name")
        self.given = given


class Taken(ExactError):
    """The shelf has the name given already."""

    def __init__(self, given):
        super().__init__("the name is taken")
        self.given = given


class BadBatch(ExactError):
    """A value is no batch of edits."""


class Rejected(ExactError):
    """The edit of a batch at the place index raised an error."""

    def __init__(self, index):
        super().__init__("an edit of the batch is rejected")
        self.index = index


class TooManyEdits(ExactError):
    """As many edits stand as may."""


class NothingToUndo(ExactError):
    """No edit stands."""


class NothingToRedo(ExactError):
    """No edit was taken back last."""


class NoVersion(ExactError):
    """The value given is no version of the bench."""

    def __init__(self, given):
        super().__init__("no such version")
        self.given = given


class BadLog(ExactError):
    """What stands at this place of a log can't be read or done."""

    def __init__(self, place):
        super().__init__("a place of the log is wrong")
        self.place = place
