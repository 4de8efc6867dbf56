"""All refusals of the program."""


class HallError(ValueError):
    """Any refusal."""


class BadSize(HallError):
    """A width or a height is beyond its bounds."""


class BadSign(HallError):
    """A sign that cannot be typed; `place` tells where it stands."""

    def __init__(self, place):
        super().__init__(f"the sign at place {place} cannot be typed")
        self.place = place


class BadFields(HallError):
    """No letter can be made of these fields."""


class BadLook(HallError):
    """A look's name, session or pane is beyond its bounds."""


class BadCount(HallError):
    """There cannot be so many panes, or there is no pane of this number."""


class NoLook(HallError):
    """There is no such look, or it types no more."""


class BadText(HallError):
    """A text that tells no steps; `row` tells its first row that is none."""

    def __init__(self, row):
        super().__init__(f"row {row} is no step")
        self.row = row
