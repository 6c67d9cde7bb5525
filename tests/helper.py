"""Rows and things that several tests use."""

import itertools
import random

from hayherd.rows import fallen, may_fall, may_pass, passed

FAR = 10 ** 12
ODD_PLACES = (-FAR, -25, -3, -2, -1, 24, 25, FAR, 10 ** 30)


def nested(depth):
    """A tuple in a tuple, so many deep."""
    thing = ()
    for step in range(depth):
        thing = (thing,)
    return thing


# None of these is a ROW, nor an ORDER of any row.
NO_THINGS = (
    None, True, False, 0, 1, -7, 10 ** 40, "", "a", "ab", "5:1", "(0,)",
    (), [], [()], ((),), (((),),), (None,), ("a",), ("ab",), ((None, None),), (("a", "b"),),
    nested(12), [nested(11)], ((nested(9), 1),), ((1, nested(9)),), tuple([None] * 3999), [[]] * 3999,
)


def small_rows():
    """All rows of one to three beasts with a few strengths and tolls."""
    beasts = list(itertools.product((-2, 0, 1, 3), (0, 1, 2)))
    for many in (1, 2, 3):
        for row in itertools.product(beasts, repeat=many):
            yield row


def drawn_rows():
    """The same rows each time: of 2 to 24 beasts, with low and with high numbers."""
    draw = random.Random(24)
    for many in (2, 3, 4, 5, 6, 8, 12, 24, 24, 24):
        for high, toll in ((6, 2), (12, 3), (40, 4), (100, 0), (FAR, 10 ** 9)):
            yield tuple((draw.randint(-high, high), draw.randint(0, toll)) for beast in range(many))


def all_rows():
    yield from small_rows()
    yield from drawn_rows()


def few_rows():
    """Rows so small that all rows that they come to can be gone through."""
    yield from list(small_rows())[::7]
    draw = random.Random(8)
    for many in (4, 4, 4, 4, 5, 5):
        for high, toll in ((2, 1), (5, 2), (9, 3), (20, 9), (3, 0)):
            yield tuple((draw.randint(-high, high), draw.randint(0, toll)) for beast in range(many))
    yield ((0, 0), (1, 0), (2, 0), (3, 0), (4, 0))
    yield ((9, 1), (7, 1), (5, 1), (3, 1), (1, 1))
    yield ((5, 1),) * 5
    yield ((-FAR, 10 ** 9), (FAR, 10 ** 9), (0, 0), (-FAR, 0))


def steps_from(row, order):
    """Each DEED that can be done now, with the ROW and the ORDER behind it."""
    for word, places, back in (("pass", may_pass(row), 1), ("fall", may_fall(row), 0)):
        for place in places:
            then = passed(row, place) if word == "pass" else fallen(row, place)
            stand = list(order)
            ahead = place - back
            stand[ahead], stand[ahead + 1] = stand[ahead + 1], stand[ahead]
            yield (word, place), then, tuple(stand)


def reached(row):
    """All that passings and fallings, done one by one, lead to: the ROW by the ORDER."""
    own = tuple(range(len(row)))
    rows, waiting = {own: row}, [own]
    while waiting:
        order = waiting.pop()
        for deed, then, stand in steps_from(rows[order], order):
            if stand not in rows:
                rows[stand] = then
                waiting.append(stand)
            # One ORDER, one ROW, whatever way leads there.
            assert rows[stand] == then
    return rows


def stair(many, toll=0):
    """A row in which each one passes all ahead of it."""
    return tuple((step * (toll * many + 1), toll) for step in range(many))


def drawn_deeds(row, many):
    """So many DEEDs that can be done, one behind the other, or fewer where none can."""
    draw, deeds = random.Random(many), []
    now, order = row, tuple(range(len(row)))
    for step in range(many):
        steps = list(steps_from(now, order))
        if not steps:
            break
        deed, now, order = draw.choice(steps)
        deeds.append(deed)
    return deeds


def foremost(places, step):
    return places[0]


def hindmost(places, step):
    return places[-1]


def middle(places, step):
    return places[len(places) // 2]


def by_turns(places, step):
    return places[step % len(places)]


def drawn(places, step):
    return random.Random(step).choice(places)


CHOICES = (foremost, hindmost, middle, by_turns, drawn)


def passed_till_last(row, choose):
    """Row, ORDER and the sorted list of pairs (passed one, passer), one passing after the other."""
    order, pairs = list(range(len(row))), []
    places = may_pass(row)
    while places:
        place = choose(places, len(pairs))
        row = passed(row, place)
        pairs.append((order[place - 1], order[place]))
        order[place - 1], order[place] = order[place], order[place - 1]
        places = may_pass(row)
        # No pair does it twice: where it went on for ever, the test shall fail and not hang.
        assert len(pairs) <= len(row) * (len(row) - 1) // 2
    return row, tuple(order), sorted(pairs)
