import itertools
import math
import random
import unittest

from hayherd.ends import fallings, first, last, passings
from hayherd.errors import NoOrder, NotKept
from hayherd.kept import comes_to, kept_pairs, number_of, order_at, orders_many, span, stands
from hayherd.rows import gone, is_order, is_row, order_behind
from tests.helper import FAR, drawn_deeds, drawn_rows, few_rows, reached, stair

ROW = ((5, 1), (7, 2), (3, 0), (9, 4))
# Each with all that it comes to.
REACHED = [(row, reached(row)) for row in few_rows()]
# Two of each strength: of these the one ahead stays ahead.
TWINS = tuple((step // 2, 0) for step in range(12))
LONG = (stair(12), stair(12, 3), TWINS, tuple(reversed(stair(12))), ((5, 0),) * 12)


def turns(order, pair):
    return order.index(pair[1]) < order.index(pair[0])


class KeptPairs(unittest.TestCase):
    def test_by_hand(self):
        # Of 7 and 9 neither passes nor falls back, of all others one does.
        self.assertEqual(kept_pairs(ROW), [(1, 3)])
        self.assertEqual(kept_pairs(((1, 40), (41, 1), (42, 0))), [(0, 1), (0, 2), (1, 2)])
        self.assertEqual(kept_pairs(((5, 0), (5, 0))), [(0, 1)])
        self.assertEqual(kept_pairs(((5, 0), (6, 0))), [])
        self.assertEqual(kept_pairs(((6, 0), (5, 0))), [])

    def test_against_all_rows_that_it_comes_to(self):
        for row, rows in REACHED:
            want = [
                pair for pair in itertools.permutations(range(len(row)), 2)
                if not any(turns(order, pair) for order in rows)
            ]
            self.assertEqual(repr(kept_pairs(row)), repr(want))

    def test_those_who_neither_pass_nor_fall(self):
        for row in drawn_rows():
            pairs = set(itertools.combinations(range(len(row)), 2))
            self.assertEqual(kept_pairs(row), sorted(pairs - set(passings(row)) - set(fallings(row))))

    def test_the_same_beasts_from_each_row_that_it_comes_to(self):
        for row, rows in REACHED[::9]:
            for order, then in rows.items():
                self.assertEqual(sorted((order[one], order[other]) for one, other in kept_pairs(then)), kept_pairs(row))

    def test_one_beast_and_many(self):
        self.assertEqual(kept_pairs(((5, 1),)), [])
        self.assertEqual(kept_pairs(stair(24)), [])
        self.assertEqual(kept_pairs(((5, 1),) * 24), list(itertools.combinations(range(24), 2)))


class ComesTo(unittest.TestCase):
    def test_against_all_rows_that_it_comes_to(self):
        for row, rows in REACHED:
            for order in itertools.permutations(range(len(row))):
                self.assertIs(comes_to(row, order), order in rows)

    def test_just_where_each_pair_stands_so(self):
        draw = random.Random(3)
        for row in drawn_rows():
            pairs = kept_pairs(row)
            for order in [tuple(draw.sample(range(len(row)), len(row))) for step in range(5)]:
                self.assertIs(comes_to(row, order), not any(turns(order, pair) for pair in pairs))

    def test_own_order_and_both_ends(self):
        for row in drawn_rows():
            for order in (tuple(range(len(row))), last(row)[1], first(row)[1]):
                self.assertIs(comes_to(row, order), True)

    def test_of_twenty_four(self):
        back = tuple(reversed(range(24)))
        self.assertIs(comes_to(stair(24, 2), back), True)
        self.assertIs(comes_to(((5, 1),) * 24, back), False)
        self.assertIs(comes_to(((5, 1),) * 24, (1, 0) + tuple(range(2, 24))), False)


class Stands(unittest.TestCase):
    def test_by_hand(self):
        self.assertEqual(stands(ROW, (1, 0, 2, 3)), ((6, 2), (5, 1), (3, 0), (9, 4)))
        self.assertEqual(stands(ROW, (0, 2, 1, 3)), ((5, 1), (3, 0), (7, 2), (9, 4)))
        # 7 falls behind 3 for 0; 5 falls behind 3; 9 passes nobody.
        self.assertEqual(stands(ROW, (2, 0, 1, 3)), ((3, 0), (5, 1), (7, 2), (9, 4)))
        # A faller has again the toll of the one that it falls behind.
        self.assertEqual(stands(((8, 1), (3, 5)), (1, 0)), ((3, 5), (13, 1)))

    def test_against_all_rows_that_it_comes_to(self):
        for row, rows in REACHED:
            for order, then in rows.items():
                self.assertEqual(stands(row, order), then)

    def test_own_order_gives_the_row_itself(self):
        for row in drawn_rows():
            self.assertEqual(stands(row, tuple(range(len(row)))), row)
        self.assertEqual(stands(((5, 1),), (0,)), ((5, 1),))

    def test_both_ends(self):
        for row in drawn_rows():
            for then, order in (last(row), first(row)):
                self.assertEqual(stands(row, order), then)
                self.assertIs(is_row(stands(row, order)), True)

    def test_behind_drawn_deeds(self):
        for row in drawn_rows():
            for many in (1, 7, 60, 300):
                deeds = drawn_deeds(row, many)
                self.assertEqual(stands(row, order_behind(row, deeds)), gone(row, deeds))

    def test_refused_with_the_first_pair(self):
        for row, rows in REACHED:
            pairs = kept_pairs(row)
            for order in itertools.permutations(range(len(row))):
                if order in rows:
                    continue
                want = [pair for pair in pairs if turns(order, pair)][0]
                for ask in (stands, number_of):
                    with self.assertRaises(NotKept) as caught:
                        ask(row, order)
                    self.assertEqual(repr(caught.exception.pair), repr(want))

    def test_the_first_of_several(self):
        for order, pair in (
            ((3, 2, 1, 0), (0, 1)), ((0, 3, 2, 1), (1, 2)), ((2, 0, 1, 3), (0, 2)), ((0, 1, 3, 2), (2, 3)),
        ):
            with self.assertRaises(NotKept) as caught:
                stands(((5, 1),) * 4, order)
            self.assertEqual(caught.exception.pair, pair)
        with self.assertRaises(NotKept) as caught:
            stands(((5, 1),) * 24, tuple(range(22)) + (23, 22))
        self.assertEqual(caught.exception.pair, (22, 23))


class Numbers(unittest.TestCase):
    def assert_no_order(self, row, number):
        with self.assertRaises(NoOrder) as caught:
            order_at(row, number)
        self.assertEqual(caught.exception.number, number)

    def test_by_hand(self):
        row = ((5, 0), (5, 0), (6, 0))
        self.assertEqual(orders_many(row), 3)
        self.assertEqual([order_at(row, number) for number in range(3)], [(0, 1, 2), (0, 2, 1), (2, 0, 1)])
        self.assertEqual(number_of(row, (0, 2, 1)), 1)
        self.assertEqual(orders_many(ROW), 12)

    def test_one_beast(self):
        self.assertEqual(orders_many(((5, 1),)), 1)
        self.assertEqual(order_at(((5, 1),), 0), (0,))
        self.assertEqual(number_of(((5, 1),), (0,)), 0)
        self.assert_no_order(((5, 1),), 1)
        self.assert_no_order(((5, 1),), -1)

    def test_against_all_orders_sorted(self):
        for row, rows in REACHED:
            orders = sorted(rows)
            self.assertEqual(repr(orders_many(row)), repr(len(orders)))
            self.assertEqual(repr([order_at(row, number) for number in range(len(orders))]), repr(orders))
            self.assertEqual([number_of(row, order) for order in orders], list(range(len(orders))))

    def test_any_other_number(self):
        for row in [row for row, rows in REACHED[::11]] + list(LONG):
            many = orders_many(row)
            for number in (many, many + 1, -1, -2, -many, -many - 1, FAR, -FAR, 10 ** 30, -(10 ** 30)):
                if not 0 <= number < many:
                    self.assert_no_order(row, number)

    def test_twelve_counted(self):
        want = (math.factorial(12), math.factorial(12), math.factorial(12) // 2 ** 6, math.factorial(12), 1)
        self.assertEqual(tuple(orders_many(row) for row in LONG), want)
        # Eleven alike ones stay as they stand, one goes through them.
        self.assertEqual(orders_many(((5, 0),) * 11 + ((6, 0),)), 12)
        # Two lines that go through one another.
        self.assertEqual(orders_many(((5, 0),) * 6 + ((6, 0),) * 6), math.comb(12, 6))

    def test_twelve_there_and_back(self):
        for row in LONG:
            many, before = orders_many(row), ()
            numbers = sorted({many * part // 50 for part in range(50)} | {0, many // 3, many - 1})
            for number in numbers:
                order = order_at(row, number)
                self.assertIs(is_order(row, order), True)
                self.assertIs(comes_to(row, order), True)
                self.assertEqual(number_of(row, order), number)
                self.assertLess(before, order)
                before = order

    def test_twelve_neighbours_by_number(self):
        for row in (stair(12), stair(12, 3)):
            # All orders of twelve: their numbers are told by how many lower ones stand behind each.
            for number in (0, 1, 2, 3628799, 3628800, 239500800, 479001598, 479001599):
                order = order_at(row, number)
                places = range(12)
                lower = [len([who for who in order[place:] if who < order[place]]) for place in places]
                want = sum(many * math.factorial(11 - place) for place, many in zip(places, lower))
                self.assertEqual(want, number)
        self.assertEqual(order_at(stair(12), 0), tuple(range(12)))
        self.assertEqual(order_at(stair(12), math.factorial(12) - 1), tuple(reversed(range(12))))

    def test_first_and_last_number_of_twins(self):
        self.assertEqual(order_at(TWINS, 0), tuple(range(12)))
        want = (10, 11, 8, 9, 6, 7, 4, 5, 2, 3, 0, 1)
        self.assertEqual(order_at(TWINS, orders_many(TWINS) - 1), want)
        self.assertEqual(number_of(TWINS, want), orders_many(TWINS) - 1)
        with self.assertRaises(NotKept) as caught:
            number_of(TWINS, (1, 0) + tuple(range(2, 12)))
        self.assertEqual(caught.exception.pair, (0, 1))

    def test_drawn_rows_of_twelve(self):
        for row in [row for row in drawn_rows() if len(row) in (8, 12)]:
            many = orders_many(row)
            for number in {0, many // 2, many - 1}:
                order = order_at(row, number)
                self.assertIs(comes_to(row, order), True)
                self.assertEqual(number_of(row, order), number)
            for order in (last(row)[1], first(row)[1], tuple(range(len(row)))):
                self.assertEqual(order_at(row, number_of(row, order)), order)


class Span(unittest.TestCase):
    def test_by_hand(self):
        self.assertEqual([span(ROW, who) for who in range(4)], [(0, 3), (0, 2), (0, 3), (1, 3)])
        self.assertEqual(span(((5, 1),), 0), (0, 0))

    def test_against_all_orders(self):
        for row, rows in REACHED:
            for who in range(len(row)):
                places = [order.index(who) for order in rows]
                self.assertEqual(repr(span(row, who)), repr((min(places), max(places))))

    def test_of_twenty_four(self):
        for who in range(24):
            self.assertEqual(span(stair(24, 5), who), (0, 23))
            self.assertEqual(span(((5, 1),) * 24, who), (who, who))
        # 9 passes three for 1 each, with 6 it doesn't pass the next one.
        row = ((5, 1),) * 23 + ((9, 0),)
        want = [(0, 0), (19, 19), (20, 21), (22, 23), (20, 23)]
        self.assertEqual([span(row, who) for who in (0, 19, 20, 22, 23)], want)

    def test_drawn_rows_of_twenty_four(self):
        for row in drawn_rows():
            own = range(len(row))
            pairs = set(kept_pairs(row))
            for who in own:
                ahead = [one for one in own if (one, who) in pairs]
                behind = [other for other in own if (who, other) in pairs]
                rest = [other for other in own if other not in ahead + [who]]
                foremost = tuple(ahead + [who] + rest)
                rest = [one for one in own if one not in behind + [who]]
                hindmost = tuple(rest + [who] + behind)
                # It does come to both, and no further, as so many stay ahead of it and behind it.
                self.assertEqual(span(row, who), (foremost.index(who), hindmost.index(who)))
                self.assertIs(comes_to(row, foremost), True)
                self.assertIs(comes_to(row, hindmost), True)


if __name__ == "__main__":
    unittest.main()
