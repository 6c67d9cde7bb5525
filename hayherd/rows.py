"""Rows of beasts, and what they do: pass and fall back.

A BEAST is a pair (strength, toll), a ROW a tuple of one or more of them, the front one first.
A DEED is ("pass", place) or ("fall", place); an ORDER of a row is a tuple of all its places.
"""

from hayherd.errors import MayNot, NotLet


def is_number(thing):
    # Python counts True and False among its integers, the document doesn't.
    return isinstance(thing, int) and not isinstance(thing, bool)


def is_beast(thing):
    if not isinstance(thing, tuple) or len(thing) != 2:
        return False
    return is_number(thing[0]) and is_number(thing[1]) and thing[1] >= 0


def is_row(thing):
    """Whether a thing is a ROW, of any length and with numbers of any size."""
    return isinstance(thing, tuple) and len(thing) > 0 and all([is_beast(part) for part in thing])


def can_pass(row, place):
    # A place below 0 is asked for first, as Python would count it from the back.
    if place < 1 or place >= len(row):
        return False
    strength, toll = row[place - 1]
    return row[place][0] - toll > strength


def can_fall(row, place):
    if place < 0 or place + 1 >= len(row):
        return False
    return row[place][0] > row[place + 1][0]


def may_pass(row):
    """The rising list of the places of those who may pass the one right ahead."""
    return [place for place in range(len(row)) if can_pass(row, place)]


def may_fall(row):
    """The rising list of the places of those who may fall back behind the one right behind."""
    return [place for place in range(len(row)) if can_fall(row, place)]


def passed(row, place):
    """The ROW once the one at place has passed; MayNot(place) where nobody there may."""
    if not can_pass(row, place):
        raise MayNot(place)
    ahead = row[place - 1]
    strength, toll = row[place]
    return row[:place - 1] + ((strength - ahead[1], toll), ahead) + row[place + 1:]


def fallen(row, place):
    """The ROW once the one at place has fallen back; MayNot(place) where nobody there may."""
    if not can_fall(row, place):
        raise MayNot(place)
    strength, toll = row[place]
    behind = row[place + 1]
    return row[:place] + (behind, (strength + behind[1], toll)) + row[place + 2:]


def swapped(order, place):
    """The ORDER in which those at place and right behind it stand the other way round."""
    return order[:place] + (order[place + 1], order[place]) + order[place + 2:]


def can_do(row, word, place):
    if word == "pass":
        return can_pass(row, place)
    return word == "fall" and can_fall(row, place)


def led(row, deeds):
    """The pair of the ROW behind the deeds and the ORDER of row's beasts in it; NotLet(number)."""
    now = row
    order = tuple(range(len(row)))
    for number, (word, place) in enumerate(deeds):
        if not can_do(now, word, place):
            raise NotLet(number)
        if word == "pass":
            now = passed(now, place)
            order = swapped(order, place - 1)
        else:
            now = fallen(now, place)
            order = swapped(order, place)
    return now, order


def gone(row, deeds):
    """The ROW behind the deeds, done one by one; NotLet(number) of the first that can't be done."""
    return led(row, deeds)[0]


def order_behind(row, deeds):
    """The ORDER in which row's beasts stand behind the deeds; NotLet(number) as of gone."""
    return led(row, deeds)[1]


def is_order(row, thing):
    """Whether a thing is an ORDER of row."""
    if not isinstance(thing, tuple) or not all([is_number(part) for part in thing]):
        return False
    return sorted(thing) == list(range(len(row)))
