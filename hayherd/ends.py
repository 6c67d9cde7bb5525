"""Where a row ends: the last row by passings alone, the first one by fallings alone.

Whatever order they pass in, the same ones pass the same ones, each pair once at most. So each end
may be reached one beast at a time, and its ORDER alone tells who passed whom on the way.
"""

from hayherd.rows import may_fall, may_pass


def pass_all(line, strengths, tolls, who):
    """Put who behind line, and have it pass as many of them as it may."""
    place = len(line)
    while place > 0 and strengths[who] - tolls[line[place - 1]] > strengths[line[place - 1]]:
        place -= 1
        strengths[who] -= tolls[line[place]]
    line.insert(place, who)


def fall_all(line, strengths, tolls, who):
    """Put who ahead of line, and have it fall back behind as many of them as it may."""
    place = 0
    while place < len(line) and strengths[who] > strengths[line[place]]:
        strengths[who] += tolls[line[place]]
        place += 1
    line.insert(place, who)


def row_and_order(line, strengths, tolls):
    return tuple([(strengths[who], tolls[who]) for who in line]), tuple(line)


def last(row):
    """The pair of the ROW to which passings lead till nobody may, and the ORDER of row's beasts in it."""
    strengths = [strength for strength, toll in row]
    tolls = [toll for strength, toll in row]
    line = []
    # From the front on: a line at its end is still at its end once one more has passed what it may.
    for who in range(len(row)):
        pass_all(line, strengths, tolls, who)
    return row_and_order(line, strengths, tolls)


def first(row):
    """The pair of the ROW to which fallings lead till nobody may, and the ORDER of row's beasts in it."""
    strengths = [strength for strength, toll in row]
    tolls = [toll for strength, toll in row]
    line = []
    for who in reversed(range(len(row))):
        fall_all(line, strengths, tolls, who)
    return row_and_order(line, strengths, tolls)


def places_of(order):
    """The place in order of each beast."""
    return {who: place for place, who in enumerate(order)}


def turned_about(order):
    """The rising list of pairs (one, other), one below other, that stand in order the other way round."""
    place_of = places_of(order)
    many = len(order)
    return [
        (one, other)
        for one in range(many)
        for other in range(one + 1, many)
        if place_of[other] < place_of[one]
    ]


def passings(row):
    """The rising list of pairs (one, other), one ahead of other in row: other passes one till the last."""
    return turned_about(last(row)[1])


def fallings(row):
    """The rising list of pairs (one, other), one ahead of other in row: one falls back behind other."""
    return turned_about(first(row)[1])


def is_last(row):
    """Whether nobody may pass."""
    return not may_pass(row)


def is_first(row):
    """Whether nobody may fall back."""
    return not may_fall(row)
