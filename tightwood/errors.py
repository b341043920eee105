"""All refusals of the program, each straight under WoodError."""


class WoodError(ValueError):
    """Any refusal."""


class NoBits(WoodError):
    """What is no bit, or no row of bits."""


class NoPlace(WoodError):
    """What is no place, no stretch, or no number of something that is there."""


class NoRow(WoodError):
    """What is no balanced row: place is where it is barred."""

    def __init__(self, place):
        WoodError.__init__(self, f"no balanced row, barred at place {place}")
        self.place = place


class NoWood(WoodError):
    """What is no wood: place is where it fails."""

    def __init__(self, place):
        WoodError.__init__(self, f"no wood, fails at place {place}")
        self.place = place


class NoKnot(WoodError):
    """What is no knot of the wood."""


class NoOrder(WoodError):
    """What is no order: place is where it fails."""

    def __init__(self, place):
        WoodError.__init__(self, f"no order, fails at place {place}")
        self.place = place


class NoName(WoodError):
    """What is no name: place is where it stands in a list, or None."""

    def __init__(self, place):
        WoodError.__init__(self, f"no name, at place {place}")
        self.place = place


class NoFit(WoodError):
    """A list of names that is not as long as the wood has knots."""


class NoGraft(WoodError):
    """What is no place at which a wood can be grafted."""


class TooLarge(WoodError):
    """A wood of more knots than are allowed."""


class NoDeed(WoodError):
    """No deed is there to be taken back."""


class NoNumber(WoodError):
    """What is no number of a wood."""


class NoLine(WoodError):
    """What is no row that the desk knows."""


class Nobody(WoodError):
    """A name by which no wood stands."""


class Nameless(WoodError):
    """A wood without names on its knots, where they are asked for."""
