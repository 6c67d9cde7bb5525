"""Rows and things that several tests use."""

import itertools
import random

FAR = 10 ** 12
ODD_PLACES = (-FAR, -25, -3, -2, -1, 24, 25, FAR, 10 ** 30)


def nested(depth):
    """A tuple in a tuple, so many deep."""
    thing = ()
    for step in range(depth):
        thing = (thing,)
    return thing


# None of these is a ROW, nor an ORDER of any row.
NO_THINGS = (
    None, True, False, 0, 1, -7, 10 ** 40, "", "a", "ab", "5:1", "(0,)",
    (), [], [()], ((),), (((),),), (None,), ("a",), ("ab",), ((None, None),), (("a", "b"),),
    nested(12), [nested(11)], ((nested(9), 1),), ((1, nested(9)),), tuple([None] * 3999), [[]] * 3999,
)


def small_rows():
    """All rows of one to three beasts with a few strengths and tolls."""
    beasts = list(itertools.product((-2, 0, 1, 3), (0, 1, 2)))
    for many in (1, 2, 3):
        for row in itertools.product(beasts, repeat=many):
            yield row


def drawn_rows():
    """The same rows each time: of 2 to 24 beasts, with low and with high numbers."""
    draw = random.Random(24)
    for many in (2, 3, 4, 5, 6, 8, 12, 24, 24, 24):
        for high, toll in ((6, 2), (12, 3), (40, 4), (100, 0), (FAR, 10 ** 9)):
            yield tuple((draw.randint(-high, high), draw.randint(0, toll)) for beast in range(many))


def all_rows():
    yield from small_rows()
    yield from drawn_rows()
