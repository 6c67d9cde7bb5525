"""Who never passes whom till the last, told by sums over the beasts between."""

from hayherd.ends import last
from hayherd.rows import is_number


def never_pass(row, one):
    """The rising list of those behind one that never pass it."""
    strength, toll = row[one]
    bar = strength + toll
    told = []
    for who in range(one + 1, len(row)):
        if row[who][0] <= bar:
            told.append(who)
            # It stays between: whoever comes to one from further back has paid its toll, too.
            bar += row[who][1]
    return told


def never(row):
    """The list with, for each beast, the rising list of those behind it that never pass it."""
    return [never_pass(row, one) for one in range(len(row))]


def is_that_list(thing, numbers):
    # Python holds True and 1 to be equal, so a list that is equal may still have other things in it.
    return thing == numbers and all([is_number(part) for part in thing])


def shows_never(row, thing):
    """Whether a thing is the list that never tells."""
    if not isinstance(thing, list) or len(thing) != len(row):
        return False
    return all([is_that_list(part, never_pass(row, one)) for one, part in enumerate(thing)])


def least_strength(row, one, other):
    """The least strength with which other, behind one, passes it, all else as it is."""
    strength, toll = row[one]
    between = [row[who][1] for who in never_pass(row[:other], one)]
    return strength + toll + sum(between) + 1


def ever(row, one, other):
    """Whether other, behind one, passes it till the last."""
    return row[other][0] >= least_strength(row, one, other)


def stopped_by(row, who):
    """The one right behind which who comes to stand once all ahead are at their end; None where it passes all."""
    order = last(row[:who + 1])[1]
    place = order.index(who)
    return None if place == 0 else order[place - 1]
