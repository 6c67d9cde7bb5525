"""Ways from a row to the rows that it comes to, and the ways of passings to the last.

Each deed turns one pair of neighbours about. So the fewest deeds turn just the pairs that have to be
turned, each once, and each deed that turns such a pair is the first one of a shortest way.
"""

from hayherd.ends import last, places_of, turned_about
from hayherd.errors import NotLet, NoWay
from hayherd.kept import picked, refuse_not_kept
from hayherd.rows import can_fall, can_pass, is_number, led, swapped


def how_far(row, order):
    """How few DEEDs lead to that ORDER; NotKept(pair)."""
    refuse_not_kept(row, order)
    return len(turned_about(order))


def deeds_toward(row, order):
    """What nearer tells of an ORDER that row comes to."""
    place_of = places_of(order)
    places = [place for place in range(len(row) - 1) if place_of[place + 1] < place_of[place]]
    falls = [("fall", place) for place in places if can_fall(row, place)]
    return falls + [("pass", place + 1) for place in places if can_pass(row, place + 1)]


def nearer(row, order):
    """The rising list of the DEEDs to be done now behind which fewer lead to that ORDER; NotKept(pair)."""
    refuse_not_kept(row, order)
    return deeds_toward(row, order)


def way_to(row, order):
    """Of the lists of the fewest DEEDs that lead to that ORDER the first, as lists rise; NotKept(pair)."""
    refuse_not_kept(row, order)
    way = []
    now = row
    goal = order
    deeds = deeds_toward(now, goal)
    while deeds:
        way.append(deeds[0])
        now, step = led(now, deeds[:1])
        # The goal names beasts by their places in the row as it stands now.
        goal = tuple([step.index(who) for who in goal])
        deeds = deeds_toward(now, goal)
    return way


def is_deed(thing):
    if not isinstance(thing, tuple) or len(thing) != 2:
        return False
    return thing[0] in ("pass", "fall") and is_number(thing[1])


def leads_to(row, order, deeds):
    """Whether all the deeds can be done, and lead to that ORDER."""
    try:
        return led(row, deeds)[1] == order
    except NotLet:
        return False


def shows_way(row, order, thing):
    """Whether a thing is a list of the fewest DEEDs that lead to that ORDER; of one not come to nothing is."""
    if not isinstance(thing, list) or len(thing) != len(turned_about(order)):
        return False
    return all([is_deed(part) for part in thing]) and leads_to(row, order, thing)


def one_passing_sooner(level):
    """For each ORDER one passing ahead of those of level: in how many ways it goes on to the last."""
    sooner = {}
    for order in level:
        for place in range(1, len(order)):
            # A beast that stood further ahead in row stands right behind: it has been passed.
            if order[place] < order[place - 1]:
                then = swapped(order, place - 1)
                sooner[then] = sooner.get(then, 0) + level[order]
    return sooner


def ways_on(row):
    """For each ORDER to which passings lead from row: in how many ways they go on to the last."""
    known = {}
    level = {last(row)[1]: 1}
    while level:
        for order in level:
            known[order] = level[order]
        level = one_passing_sooner(level)
    return known


def ways_many(row):
    """How many lists of places there are at which one behind the other passes till the last."""
    return ways_on(row)[tuple(range(len(row)))]


def passings_on(order, known):
    """The list of pairs of a place at which one may pass now, rising, and how many ways go on behind that."""
    places = [place for place in range(1, len(order)) if order[place - 1] < order[place]]
    thens = [(place, swapped(order, place - 1)) for place in places]
    return [(place, known[then]) for place, then in thens if then in known]


def way_at(row, number):
    """The list of places of that number among those that ways_many counts, as lists rise; NoWay(number)."""
    known = ways_on(row)
    order = tuple(range(len(row)))
    if number < 0 or number >= known[order]:
        raise NoWay(number)
    way = []
    left = number
    shares = passings_on(order, known)
    while shares:
        place, left = picked(shares, left)
        way.append(place)
        order = swapped(order, place - 1)
        shares = passings_on(order, known)
    return way
