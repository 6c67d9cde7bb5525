"""All rows that a row comes to, by passings and fallings.

They stand in just the ORDERs that keep each pair of beasts of which neither passes nor falls back. So
ORDERs are judged pair by pair, and counted by which beasts stand foremost, whatever their own order is.
"""

from hayherd.ends import fallings, passings, places_of, turned_about
from hayherd.errors import NoOrder, NotKept


def kept_pairs(row):
    """The rising list of pairs (one, other): one stands ahead of other in each row that is come to."""
    loose = {pair: True for pair in passings(row) + fallings(row)}
    many = len(row)
    return [
        (one, other)
        for one in range(many)
        for other in range(one + 1, many)
        if (one, other) not in loose
    ]


def first_not_kept(row, order):
    """The first of kept_pairs that order turns about; None where it turns none."""
    place_of = places_of(order)
    for one, other in kept_pairs(row):
        if place_of[other] < place_of[one]:
            return one, other
    return None


def comes_to(row, order):
    """Whether row's beasts come to stand in that ORDER."""
    return first_not_kept(row, order) is None


def refuse_not_kept(row, order):
    """NotKept(pair), the first of kept_pairs that order turns about, where row doesn't come to it."""
    pair = first_not_kept(row, order)
    if pair is not None:
        raise NotKept(pair)


def stands(row, order):
    """The ROW in which row's beasts stand in that ORDER; NotKept(pair)."""
    refuse_not_kept(row, order)
    passing = {pair: True for pair in passings(row)}
    strengths = [strength for strength, toll in row]
    for one, other in turned_about(order):
        if (one, other) in passing:
            strengths[other] -= row[one][1]
        else:
            strengths[one] += row[other][1]
    return tuple([(strengths[who], row[who][1]) for who in order])


def kept_ahead(row):
    """The list of, for each beast, those kept ahead of it, as the bits of a number."""
    ahead = [0] * len(row)
    for one, other in kept_pairs(row):
        ahead[other] |= 1 << one
    return ahead


def next_ones(ahead, stood):
    """The rising list of those that may stand right behind the beasts whose bits stood has."""
    return [
        who
        for who in range(len(ahead))
        if (stood >> who) & 1 == 0 and ahead[who] & stood == ahead[who]
    ]


def orders_behind(ahead, stood, known):
    """In how many orders the others can stand behind those of stood; known keeps what was counted."""
    if stood not in known:
        # Nobody left to stand is one order, the bare one.
        many = 1 if stood == (1 << len(ahead)) - 1 else 0
        for who in next_ones(ahead, stood):
            many += orders_behind(ahead, stood | 1 << who, known)
        known[stood] = many
    return known[stood]


def picked(shares, number):
    """Of a list of pairs (thing, many): the thing among whose many the number is, and which of these it is."""
    at = 0
    while number >= shares[at][1]:
        number -= shares[at][1]
        at += 1
    return shares[at][0], number


def orders_many(row):
    """How many ORDERs row comes to, its own among them."""
    return orders_behind(kept_ahead(row), 0, {})


def order_at(row, number):
    """The ORDER of that number among those that row comes to, as tuples rise; NoOrder(number)."""
    ahead = kept_ahead(row)
    known = {}
    if number < 0 or number >= orders_behind(ahead, 0, known):
        raise NoOrder(number)
    order = []
    stood = 0
    left = number
    while len(order) < len(row):
        ones = next_ones(ahead, stood)
        who, left = picked([(one, orders_behind(ahead, stood | 1 << one, known)) for one in ones], left)
        order.append(who)
        stood |= 1 << who
    return tuple(order)


def number_of(row, order):
    """The number of that ORDER among those that row comes to, as tuples rise; NotKept(pair)."""
    refuse_not_kept(row, order)
    ahead = kept_ahead(row)
    known = {}
    number = 0
    stood = 0
    for who in order:
        for other in next_ones(ahead, stood):
            if other < who:
                number += orders_behind(ahead, stood | 1 << other, known)
        stood |= 1 << who
    return number


def span(row, who):
    """The pair of the least and the greatest place at which who can come to stand."""
    pairs = kept_pairs(row)
    ahead = len([one for one, other in pairs if other == who])
    behind = len([other for one, other in pairs if one == who])
    return ahead, len(row) - 1 - behind
