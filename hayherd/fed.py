"""Beasts that are fed, tolls that are raised, and what comes of it."""

from hayherd.ends import last, passings


def put_in(row, who, beast):
    """The ROW with another beast in place of who."""
    return row[:who] + (beast,) + row[who + 1:]


def fed(row, who, by):
    """The ROW in which who's strength is so much more, or less where by is below 0."""
    strength, toll = row[who]
    return put_in(row, who, (strength + by, toll))


def asking(row, who, toll):
    """The ROW in which who's toll is that."""
    return put_in(row, who, (row[who][0], toll))


def missing(pairs, others):
    """The list of those of pairs that others haven't."""
    known = {pair: True for pair in others}
    return [pair for pair in pairs if pair not in known]


def unlike(row, other):
    """The pair of rising lists of the passings of other that row hasn't, and of those of row that other hasn't."""
    here = passings(row)
    there = passings(other)
    return missing(there, here), missing(here, there)


def last_place(row, who):
    return last(row)[1].index(who)


def feed_to_the_front(row, who):
    """So much that who, fed by it, passes all ahead, and nobody passes it."""
    strongest = max([strength for strength, toll in row])
    return strongest + sum([toll for strength, toll in row]) + 1 - row[who][0]


def least_feed(row, who, place):
    """The least number from 0 such that who, fed so much, stands in the last row at place, or ahead of it."""
    low = 0
    high = feed_to_the_front(row, who)
    # Fed more, it never stands further back, so the half with the least one in it is known each time.
    while low < high:
        middle = (low + high) // 2
        if last_place(fed(row, who, middle), who) <= place:
            high = middle
        else:
            low = middle + 1
    return low
