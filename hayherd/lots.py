"""Herds: rows of many alike beasts, lot by lot.

Alike ones never pass one another, and each of a lot passes, and falls back behind, just those that all of it
do. So a lot goes as one, and how far it goes is told by sums, however many are in it.
"""

from hayherd.rows import is_number


def is_lot(thing):
    if not isinstance(thing, tuple) or len(thing) != 3 or not all([is_number(part) for part in thing]):
        return False
    return thing[1] >= 0 and thing[2] >= 1


def is_herd(thing):
    """Whether a thing is a HERD, of any length and with numbers of any size."""
    if not isinstance(thing, tuple) or len(thing) == 0 or not all([is_lot(part) for part in thing]):
        return False
    return all([thing[at - 1][:2] != thing[at][:2] for at in range(1, len(thing))])


def together(lots):
    """The HERD of these lots, in which neighbours alike are one."""
    herd = []
    for strength, toll, many in lots:
        alike = len(herd) > 0 and herd[-1][:2] == (strength, toll)
        before = herd.pop()[2] if alike else 0
        herd.append((strength, toll, before + many))
    return tuple(herd)


def herd_of(row):
    """The HERD of the row's beasts: neighbours alike are one LOT."""
    return together([(strength, toll, 1) for strength, toll in row])


def row_of(herd):
    """The ROW of the herd's beasts, one by one."""
    return tuple([(strength, toll) for strength, toll, many in herd for step in range(many)])


def many_passed(spare, toll, many):
    """How many of so many alike ones one passes that has so much more strength than each of them."""
    if spare <= 0:
        return 0
    # Behind the last one that it passes it's still the stronger, by 1 at least.
    return many if toll == 0 else min(many, (spare - 1) // toll)


def pass_lots(line, strengths, herd, who):
    """Put lot who behind line, have each of it pass as many as it may: told how many.

    Line is a list of pairs (lot, many): a lot that is passed by some in part alone stands there in parts.
    """
    place = len(line)
    told = 0
    while place > 0:
        lot, many = line[place - 1]
        toll = herd[lot][1]
        some = many_passed(strengths[who] - strengths[lot], toll, many)
        strengths[who] -= some * toll
        told += some
        if some < many:
            if some > 0:
                line[place - 1] = (lot, many - some)
                line.insert(place, (lot, some))
            break
        place -= 1
    line.insert(place, (who, herd[who][2]))
    return told


def herd_end(herd):
    """The last row's pairs (lot, many), each lot's strength there, and how many each one of a lot passes."""
    strengths = [strength for strength, toll, many in herd]
    line = []
    told = []
    for who in range(len(herd)):
        told.append(pass_lots(line, strengths, herd, who))
    return line, strengths, told


def herd_last(herd):
    """The HERD of the last ROW."""
    line, strengths, told = herd_end(herd)
    return together([(strengths[lot], herd[lot][1], many) for lot, many in line])


def fall_lots(line, strengths, herd, who):
    """Put lot who ahead of line, and have each of it fall back behind as many as it may."""
    place = 0
    # It's the stronger behind each one it has fallen back behind, so it goes by all of a lot or by none.
    while place < len(line) and strengths[who] > strengths[line[place]]:
        strength, toll, many = herd[line[place]]
        strengths[who] += many * toll
        place += 1
    line.insert(place, who)


def herd_first(herd):
    """The HERD of the first ROW."""
    strengths = [strength for strength, toll, many in herd]
    line = []
    for who in reversed(range(len(herd))):
        fall_lots(line, strengths, herd, who)
    return together([(strengths[lot], herd[lot][1], herd[lot][2]) for lot in line])


def herd_passed(herd):
    """The list, lot by lot, of how many beasts each single one of it passes till the last."""
    return herd_end(herd)[2]


def herd_passings(herd):
    """How many passings lead to the last row."""
    return sum([passed * many for passed, (strength, toll, many) in zip(herd_passed(herd), herd)])


def herd_places(herd):
    """The list of pairs of the foremost and the hindmost place of each lot's in the last row."""
    foremost = {}
    hindmost = {}
    place = 0
    for lot, many in herd_end(herd)[0]:
        if lot not in foremost:
            foremost[lot] = place
        place += many
        hindmost[lot] = place - 1
    return [(foremost[lot], hindmost[lot]) for lot in range(len(herd))]
