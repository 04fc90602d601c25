"""The errors that the functions of the package raise."""


class SlateError(ValueError):
    """The base class of all errors of the package."""


class BadHouse(SlateError):
    """No house: clerk is the first one whose thing is wrong, None if the value is no tuple of so many things."""

    def __init__(self, clerk):
        SlateError.__init__(self, f"no house (clerk: {clerk})")
        self.clerk = clerk


class BadLot(SlateError):
    """No lot, or the empty lot where a goal is asked for."""


class BadNumber(SlateError):
    """No number of those that are allowed."""


class BadRules(SlateError):
    """No rules of the house: part is the first of "rules", "signs" and "tables" that is wrong."""

    def __init__(self, part):
        SlateError.__init__(self, f"no rules of this house (part: {part})")
        self.part = part


class BadSlates(SlateError):
    """No slates of the house."""


class BadNight(SlateError):
    """No night, or no row of nights, of the house."""


class TooMany(SlateError):
    """More than most."""

    def __init__(self, most):
        SlateError.__init__(self, f"more than {most}")
        self.most = most


class BadLine(SlateError):
    """A line, counted from 0, that can't stand where it stands."""

    def __init__(self, line):
        SlateError.__init__(self, f"wrong in line {line}")
        self.line = line


class BadCourses(SlateError):
    """No two courses that lead to the same slates."""
