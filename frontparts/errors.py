"""All errors of the package. A field has the name that the document puts in parentheses."""


class BagError(ValueError):
    """What all errors of the package derive from."""


class BadBag(BagError):
    """No bag can be made: part is "clock" or "words", whichever is wrong."""

    def __init__(self, part):
        self.part = part


class UnlikeClocks(BagError):
    """Two bags that should have one clock have not."""


class NoNumber(BagError):
    """No integer, or none within the bounds."""


class NoWord(BagError):
    """No string of the three letters."""


class NoBags(BagError):
    """No dict from letters to bags of the clock, or one that lacks a letter."""


class IsNothing(BagError):
    """The bag without words, where it has no place."""


class NoRow(BagError):
    """No list or tuple of bags of one clock, or too many or too few of them."""


class NotLevel(BagError):
    """A bag whose words are not all equally long, or that is nothing."""


class TooLong(BagError):
    """A bag of more letters than most."""

    def __init__(self, most):
        self.most = most


class TooMany(BagError):
    """There are more than most."""

    def __init__(self, most):
        self.most = most


class NoSystem(BagError):
    """No list or tuple of rows that have as many bags, all of one clock."""


class NoGoals(BagError):
    """No list or tuple of a bag for each row of a system."""


class NoPrices(BagError):
    """No dict from pairs of a knot and a place to prices."""


class NoPart(BagError):
    """No front part of the bag."""


class NoLot(BagError):
    """No lot of knots of the bag."""


class NoOrder(BagError):
    """No order of the web of the bag."""


class NoWay(BagError):
    """No way of the bag."""


class NoPlace(BagError):
    """No place that is there."""


class NoKnot(BagError):
    """No number of a knot of the bag."""


class IsNumber(BagError):
    """A number alone, where it has no place."""


class NoStock(BagError):
    """No tuple of bags with prices, all of the clock."""


class NoAlphabet(BagError):
    """None of the strings of letters that are allowed there."""


class NoLetters(BagError):
    """A bag with letters that it must not have there."""


class NoClock(BagError):
    """None of the four clocks."""


class NoBag(BagError):
    """No bag of the clock."""


class Full(BagError):
    """A bench on which no further bag finds room."""


class NothingDone(BagError):
    """Nothing is there that could be taken back."""


class BadText(BagError):
    """A text that tells nothing: line is where, or 0 for what is no string."""

    def __init__(self, line):
        self.line = line


class NoLine(BagError):
    """No line that a desk knows."""


class NoName(BagError):
    """There is no bag under this name."""

    def __init__(self, name):
        self.name = name
