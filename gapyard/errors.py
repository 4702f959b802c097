"""The refusals of the program: one class for each kind, all straight under YardError."""


class YardError(ValueError):
    """Any refusal."""


class BadName(YardError):
    """What should be a name, or a list of names, is none."""


class BadNumber(YardError):
    """What should be a number is none."""


class Alike(YardError):
    """Two moments that should be unlike are one."""


class NoMoment(YardError):
    """There is no moment of this name in the yard."""

    def __init__(self, name):
        super().__init__(f"no moment {name}")
        self.name = name


class NoGap(YardError):
    """There is no gap from the one moment to the other."""


class Ring(YardError):
    """The yard has a ring, so it has no fit."""

    def __init__(self, ring):
        super().__init__("the yard has a ring")
        # A copy, so that the field stays what it was, whatever becomes of the list handed in.
        self.ring = list(ring)


class Unfit(YardError):
    """What should be a fit of the yard is none."""


class BadNote(YardError):
    """A row of the note is not as it should be; rows are counted from 1."""

    def __init__(self, row):
        super().__init__(f"row {row} of the note is not as it should be")
        self.row = row
