import random
import unittest

from hayherd.ends import first, is_first, is_last, last, passings
from hayherd.lots import (
    herd_first, herd_last, herd_of, herd_passed, herd_passings, herd_places, is_herd, row_of,
)
from tests.helper import CHOICES, FAR, NO_THINGS, all_rows, drawn_rows, nested, passed_till_last

MANY = 10 ** 12
TOLL = 10 ** 9
HERD = ((5, 1, 3), (7, 2, 1), (5, 1, 2))


def drawn_herds():
    """Small herds, the same ones each time, with alike lots apart among them."""
    draw = random.Random(13)
    for step in range(700):
        high, toll, most = draw.choice((2, 6, 30)), draw.choice((0, 1, 3)), draw.choice((1, 3, 6))
        herd = []
        for lot in range(draw.randint(1, 6)):
            beast = (draw.randint(-high, high), draw.randint(0, toll))
            if not herd or herd[-1][:2] != beast:
                herd.append(beast + (draw.randint(1, most),))
        yield tuple(herd)


def far_herds():
    """Herds of 24 lots and of fewer, of so many beasts that nobody goes through them."""
    draw = random.Random(14)
    for step in range(60):
        high, toll, most = draw.choice(((FAR, TOLL, MANY), (FAR, 3, MANY), (FAR, 2, 10 ** 6), (50, 1, MANY), (9, 0, MANY)))
        lots = [
            (draw.randint(-high, high), draw.randint(0, toll), draw.randint(1, most))
            for lot in range(draw.choice((2, 5, 24, 24)))
        ]
        yield tuple(lot for at, lot in enumerate(lots) if at == 0 or lot[:2] != lots[at - 1][:2])


def lots_of(herd):
    """For each lot the places of its beasts in the row of all."""
    told, place = [], 0
    for strength, toll, many in herd:
        told.append(range(place, place + many))
        place += many
    return told


HERDS = list(drawn_herds())
FAR_HERDS = list(far_herds())


class IsHerd(unittest.TestCase):
    def assert_herd(self, thing, so):
        self.assertIs(is_herd(thing), so, repr(thing)[:80])

    def test_herds(self):
        for herd in (HERD, ((0, 0, 1),), ((-5, 0, 1), (-5, 1, 1)), ((5, 1, MANY), (6, 1, MANY))):
            self.assert_herd(herd, True)
        for herd in HERDS + FAR_HERDS:
            self.assert_herd(herd, True)
        # The bounds aren't looked at.
        self.assert_herd(((-(10 ** 40), 10 ** 40, 10 ** 40),), True)
        self.assert_herd(((5, 1, 1), (6, 1, 1)) * 900, True)

    def test_pairs_and_fours(self):
        for lot in ((), (5,), (5, 1), (5, 1, 3, 1), (5, 1, 3, 3), ((5, 1), 3), ((5, 1, 3),)):
            self.assert_herd((lot,), False)
            self.assert_herd(((7, 2, 1), lot), False)
            self.assert_herd((lot, (7, 2, 1)), False)

    def test_lists_for_tuples(self):
        self.assert_herd([(5, 1, 3)], False)
        self.assert_herd(([5, 1, 3],), False)
        self.assert_herd(((7, 2, 1), [5, 1, 3]), False)

    def test_of_none(self):
        self.assert_herd((), False)
        self.assert_herd([], False)

    def test_many_and_toll(self):
        for many, so in ((1, True), (0, False), (-1, False), (-MANY, False)):
            self.assert_herd(((5, 1, many),), so)
            self.assert_herd(((7, 2, 1), (5, 1, many)), so)
        for toll, so in ((0, True), (-1, False), (-TOLL, False)):
            self.assert_herd(((5, toll, 3),), so)
            self.assert_herd(((5, toll, 3), (7, 2, 1)), so)

    def test_no_numbers(self):
        for thing in (True, False, None, "", "5", "a", (), [], (5,), [5]):
            for lot in ((thing, 1, 3), (5, thing, 3), (5, 1, thing)):
                self.assert_herd((lot,), False)
                self.assert_herd(((7, 2, 1), lot), False)

    def test_neighbours_alike(self):
        self.assert_herd(((5, 1, 3), (5, 1, 3)), False)
        self.assert_herd(((5, 1, 3), (5, 1, 4)), False)
        self.assert_herd(((7, 2, 1), (5, 1, 3), (5, 1, 4)), False)
        self.assert_herd(((5, 1, 3), (5, 1, 4), (7, 2, 1)), False)
        self.assert_herd(((5, 1, 3), (7, 2, 1), (5, 1, 3)), True)
        self.assert_herd(((5, 1, 3), (5, 2, 3), (6, 2, 3)), True)

    def test_things_of_any_kind(self):
        self.assert_herd((5, 1, 3), False)
        for thing in NO_THINGS + (((5, 1),), ((5, 1), (7, 2)), (((5, 1, 3),),)):
            self.assert_herd(thing, False)
            self.assert_herd((thing,), False)
            self.assert_herd(((5, 1, 3), thing), False)
        for depth in range(13):
            self.assert_herd(nested(depth), False)
            self.assert_herd(((nested(max(depth, 3) - 3), 1, 1),), False)


class HerdOfAndRowOf(unittest.TestCase):
    def test_by_hand(self):
        row = ((5, 1),) * 3 + ((7, 2),) + ((5, 1),) * 2
        self.assertEqual(herd_of(row), HERD)
        self.assertEqual(row_of(HERD), row)
        self.assertEqual(herd_of(((5, 1),)), ((5, 1, 1),))
        self.assertEqual(row_of(((5, 1, 24),)), ((5, 1),) * 24)

    def test_alike_but_for_one_number(self):
        self.assertEqual(herd_of(((5, 1), (5, 2), (6, 2), (6, 2))), ((5, 1, 1), (5, 2, 1), (6, 2, 2)))

    def test_there_and_back(self):
        for herd in HERDS:
            self.assertEqual(repr(herd_of(row_of(herd))), repr(herd))
        for row in all_rows():
            self.assertIs(is_herd(herd_of(row)), True)
            self.assertEqual(repr(row_of(herd_of(row))), repr(row))


class SmallHerds(unittest.TestCase):
    def test_ends_against_all_beasts(self):
        for herd in HERDS:
            row = row_of(herd)
            self.assertEqual(repr(herd_last(herd)), repr(herd_of(last(row)[0])))
            self.assertEqual(repr(herd_first(herd)), repr(herd_of(first(row)[0])))

    def test_ends_of_rows(self):
        for row in all_rows():
            self.assertEqual(herd_last(herd_of(row)), herd_of(last(row)[0]))
            self.assertEqual(herd_first(herd_of(row)), herd_of(first(row)[0]))

    def test_passings_one_by_one(self):
        for herd in HERDS[::4]:
            then, order, pairs = passed_till_last(row_of(herd), CHOICES[0])
            self.assertEqual(repr(herd_passings(herd)), repr(len(pairs)))
            self.assertEqual(row_of(herd_last(herd)), then)

    def test_how_many_each_passes(self):
        for herd in HERDS:
            passers = [other for one, other in passings(row_of(herd))]
            told = herd_passed(herd)
            self.assertIs(type(told), list)
            self.assertEqual(len(told), len(herd))
            for many, lot in zip(told, lots_of(herd)):
                self.assertEqual([passers.count(who) for who in lot], [many] * len(lot))

    def test_places(self):
        for herd in HERDS:
            order = last(row_of(herd))[1]
            want = []
            for lot in lots_of(herd):
                places = [order.index(who) for who in lot]
                want.append((min(places), max(places)))
            self.assertEqual(repr(herd_places(herd)), repr(want))


class ByHand(unittest.TestCase):
    def test_a_lot_that_is_parted(self):
        # 9 pays for two of five alone, 9 - 2 - 2 is still above 4, one more it can't.
        herd = ((4, 2, 5), (9, 1, 1))
        self.assertEqual(herd_last(herd), ((4, 2, 3), (5, 1, 1), (4, 2, 2)))
        self.assertEqual(herd_passings(herd), 2)
        self.assertEqual(herd_passed(herd), [0, 2])
        self.assertEqual(herd_places(herd), [(0, 5), (3, 3)])

    def test_just_so_much_and_one_less(self):
        for strength, some in ((4, 0), (5, 0), (6, 0), (7, 1), (8, 1), (9, 2), (14, 4), (15, 5), (16, 5), (99, 5)):
            herd = ((4, 2, 5), (strength, 3, 2))
            self.assertEqual(herd_passed(herd), [0, some])
            self.assertEqual(herd_passings(herd), 2 * some)
            self.assertEqual(herd_places(herd)[1], (5 - some, 6 - some))
            self.assertEqual(herd_last(herd), herd_of(last(row_of(herd))[0]))

    def test_far_lots_that_are_parted(self):
        herd = ((0, 2, MANY), (FAR, 5, MANY))
        # FAR - 1 pays for half of them, less one.
        some = FAR // 2 - 1
        self.assertEqual(herd_passed(herd), [0, some])
        self.assertEqual(herd_passings(herd), some * MANY)
        self.assertEqual(herd_last(herd), ((0, 2, MANY - some), (2, 5, MANY), (0, 2, some)))
        self.assertEqual(herd_places(herd), [(0, 2 * MANY - 1), (MANY - some, 2 * MANY - some - 1)])
        self.assertEqual(herd_first(herd), herd)
        self.assertEqual(herd_first(herd_last(herd)), herd)

    def test_tolls_of_nought(self):
        herd = tuple((step, 0, MANY) for step in range(24))
        self.assertEqual(herd_last(herd), herd[::-1])
        self.assertEqual(herd_passings(herd), MANY * MANY * 276)
        self.assertEqual(herd_passed(herd), [step * MANY for step in range(24)])
        self.assertEqual(herd_places(herd), [((23 - step) * MANY, (24 - step) * MANY - 1) for step in range(24)])
        self.assertEqual(herd_first(herd[::-1]), herd)
        self.assertEqual((herd_last(herd[::-1]), herd_first(herd)), (herd[::-1], herd))

    def test_lots_that_come_together(self):
        # The two lots of 5 are one behind the other once 9 has gone ahead, or 1 has fallen to the back.
        self.assertEqual(herd_last(((5, 0, MANY), (9, 0, 7), (5, 0, 3))), ((9, 0, 7), (5, 0, MANY + 3)))
        self.assertEqual(herd_first(((5, 0, MANY), (9, 0, 7), (5, 0, 3))), ((5, 0, MANY + 3), (9, 0, 7)))
        # 7 pays 2, and is then alike to the one ahead of it.
        self.assertEqual(herd_last(((5, 1, 4), (0, 2, 1), (7, 1, 6))), ((5, 1, 10), (0, 2, 1)))
        self.assertEqual(herd_places(((5, 1, 4), (0, 2, 1), (7, 1, 6))), [(0, 3), (10, 10), (4, 9)])
        # So falls 3 behind those of toll 2, and is then 5.
        self.assertEqual(herd_first(((3, 1, 6), (0, 2, 1), (5, 1, 4))), ((0, 2, 1), (5, 1, 10)))

    def test_alike_lots_apart_stay_apart(self):
        herd = ((5, 1, MANY), (6, 1, 1), (5, 1, MANY))
        self.assertEqual(herd_last(herd), herd)
        self.assertEqual(herd_passings(herd), 0)
        self.assertEqual(herd_passed(herd), [0, 0, 0])
        self.assertEqual(herd_places(herd), [(0, MANY - 1), (MANY, MANY), (MANY + 1, 2 * MANY)])

    def test_one_lot(self):
        for lot in ((5, 1, 1), (-FAR, TOLL, MANY), (FAR, 0, MANY)):
            self.assertEqual((herd_last((lot,)), herd_first((lot,))), ((lot,), (lot,)))
            self.assertEqual((herd_passings((lot,)), herd_passed((lot,))), (0, [0]))
            self.assertEqual(herd_places((lot,)), [(0, lot[2] - 1)])


class FarHerds(unittest.TestCase):
    def test_ends_are_herds_of_as_many(self):
        for herd in FAR_HERDS:
            for told in (herd_last(herd), herd_first(herd)):
                self.assertIs(is_herd(told), True)
                self.assertEqual(sum(many for strength, toll, many in told), sum(many for strength, toll, many in herd))

    def test_of_one_another(self):
        for herd in FAR_HERDS:
            end, begin = herd_last(herd), herd_first(herd)
            self.assertEqual((herd_last(end), herd_first(begin)), (end, begin))
            self.assertEqual((herd_last(begin), herd_first(end)), (end, begin))
            self.assertEqual(herd_passings(end), 0)
            self.assertEqual(herd_passed(end), [0] * len(end))

    def test_ends_seen_lot_by_lot(self):
        for herd in FAR_HERDS:
            for told, is_end in ((herd_last(herd), is_last), (herd_first(herd), is_first)):
                row = tuple((strength, toll) for strength, toll, many in told for step in range(min(many, 2)))
                self.assertIs(is_end(row), True)

    def test_hay_stays(self):
        for herd in FAR_HERDS:
            # Each passing costs its toll, so the strengths and the tolls of all ahead are told by sums.
            told = herd_passed(herd)
            self.assertEqual(herd_passings(herd), sum(some * lot[2] for some, lot in zip(told, herd)))
            if len({toll for strength, toll, many in herd}) == 1:
                toll = herd[0][1]
                paid = sum(strength * many for strength, same, many in herd)
                paid -= sum(strength * many for strength, same, many in herd_last(herd))
                self.assertEqual(paid, toll * herd_passings(herd))

    def test_places_are_within_and_lots_keep_their_room(self):
        for herd in FAR_HERDS:
            everyone = sum(many for strength, toll, many in herd)
            places = herd_places(herd)
            self.assertEqual(len(places), len(herd))
            self.assertEqual(min(places)[0], 0)
            self.assertEqual(max(hindmost for foremost, hindmost in places), everyone - 1)
            for (foremost, hindmost), (strength, toll, many) in zip(places, herd):
                self.assertGreaterEqual(hindmost - foremost + 1, many)

    def test_twenty_four_lots_that_can_be_gone_through(self):
        draw = random.Random(15)
        for high, toll in ((40, 1), (300, 2), (900, 9), (FAR, TOLL), (FAR, FAR // 50)):
            for step in range(3):
                row = [(draw.randint(-high, high), draw.randint(0, toll)) for lot in range(24)]
                herd = herd_of(tuple(beast for beast in row for many in range(draw.randint(1, 12))))
                then, order = last(row_of(herd))
                self.assertEqual(herd_last(herd), herd_of(then))
                self.assertEqual(herd_first(herd), herd_of(first(row_of(herd))[0]))
                self.assertEqual(herd_passings(herd), len(passings(row_of(herd))))
                place_of = {who: place for place, who in enumerate(order)}
                ends = [(place_of[lot[0]], place_of[lot[-1]]) for lot in lots_of(herd)]
                self.assertEqual(herd_places(herd), ends)

    def test_so_many_times_more_of_each(self):
        for herd in HERDS:
            if all(toll == 0 for strength, toll, many in herd):
                more = tuple((strength, toll, many * MANY) for strength, toll, many in herd)
                self.assertEqual(herd_passings(more), herd_passings(herd) * MANY * MANY)
                self.assertEqual(herd_passed(more), [some * MANY for some in herd_passed(herd)])
                want = tuple((strength, toll, many * MANY) for strength, toll, many in herd_last(herd))
                self.assertEqual(herd_last(more), want)

    def test_told_herds_handed_in_again(self):
        for herd in FAR_HERDS:
            then = herd_last(herd)
            for step in range(3):
                then = herd_last(herd_first(then))
            self.assertEqual(then, herd_last(herd))
            self.assertEqual(herd_passings(herd_first(herd)), herd_passings(herd_first(then)))


class ManyRows(unittest.TestCase):
    def test_rows_of_twenty_four(self):
        for row in drawn_rows():
            herd = herd_of(row)
            self.assertEqual(row_of(herd_last(herd)), last(row)[0])
            self.assertEqual(row_of(herd_first(herd)), first(row)[0])
            self.assertEqual(herd_passings(herd), len(passings(row)))


if __name__ == "__main__":
    unittest.main()
