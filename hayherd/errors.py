"""What is refused, one class for each reason.

Each class stands straight under one of Python's own, so that catching one of them never catches another.
What is refused may be any number, and Python writes no number of some thousands of figures: so the words
have none, and what it was stands in the field alone.
"""


class NotKept(ValueError):
    """An order turns about a pair that stays as it is in each row that is come to."""

    def __init__(self, pair):
        ValueError.__init__(self, "a pair that stays as it is would be turned about")
        self.pair = pair


class BadText(ValueError):
    """A text is no row's: the word of that number isn't so written."""

    def __init__(self, at):
        ValueError.__init__(self, "a word is no beast")
        self.at = at


class BadRow(ValueError):
    """The row of that number on a desk isn't so written."""

    def __init__(self, number):
        ValueError.__init__(self, "a row can't be read")
        self.number = number


class BadDeed(ValueError):
    """What has that number in a list of deeds is no deed."""

    def __init__(self, number):
        ValueError.__init__(self, "something is no deed")
        self.number = number


class NoOrder(LookupError):
    """There is no order of that number."""

    def __init__(self, number):
        LookupError.__init__(self, "there is no order of that number")
        self.number = number


class NoWay(LookupError):
    """There is no way of that number."""

    def __init__(self, number):
        LookupError.__init__(self, "there is no way of that number")
        self.number = number


class NoBeast(LookupError):
    """Nobody in the fold is called so."""

    def __init__(self, name):
        LookupError.__init__(self, "nobody is called so")
        self.name = name


class NoPlace(LookupError):
    """Nobody can come to stand at that place."""

    def __init__(self, place):
        LookupError.__init__(self, "there is no such place")
        self.place = place


class MayNot(RuntimeError):
    """Nobody at that place (in a fold: of that name) may pass, or fall back."""

    def __init__(self, place):
        RuntimeError.__init__(self, "nobody there may")
        self.place = place


class NotLet(RuntimeError):
    """The deed of that number can't be done."""

    def __init__(self, number):
        RuntimeError.__init__(self, "a deed can't be done")
        self.number = number


class Full(OverflowError):
    """So many are in the fold, and no more may come."""

    def __init__(self, many):
        OverflowError.__init__(self, "there are so many already")
        self.many = many
