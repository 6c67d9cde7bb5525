import itertools
import random
import unittest

from hayherd.ends import first, last, passings
from hayherd.errors import NotKept
from hayherd.hay import hay, hay_between
from hayherd.kept import kept_pairs
from hayherd.rows import order_behind
from hayherd.ways import way_to
from tests.helper import CHOICES, FAR, all_rows, drawn_deeds, drawn_rows, few_rows, passed_till_last, reached, stair

ROW = ((5, 1), (7, 2), (3, 0), (9, 4))
TOLL = 10 ** 9


def hay_of(row, deeds):
    """The pairs (taken, paid), deed by deed, and the ORDER behind them."""
    taken, paid = [0] * len(row), [0] * len(row)
    order = list(range(len(row)))
    for word, place in deeds:
        ahead = place - 1 if word == "pass" else place
        one, other = order[ahead], order[ahead + 1]
        if word == "pass":
            taken[one] += row[one][1]
            paid[other] += row[one][1]
        else:
            taken[other] -= row[other][1]
            paid[one] -= row[other][1]
        order[ahead], order[ahead + 1] = other, one
    return list(zip(taken, paid)), tuple(order)


def there_and_back(row, deeds):
    """The deeds, then those that undo them from the last one on."""
    back = [("fall", place - 1) if word == "pass" else ("pass", place + 1) for word, place in reversed(deeds)]
    return deeds + back


class Hay(unittest.TestCase):
    def test_by_hand(self):
        # 7 and 9 pass 5, each for 1, and 9 passes 3 for nothing.
        self.assertEqual(hay(ROW), [(2, 0), (0, 1), (0, 0), (0, 1)])
        self.assertEqual(hay(((5, 1),)), [(0, 0)])
        self.assertEqual(hay(((0, 3), (1, 7), (90, 2))), [(3, 0), (7, 0), (0, 10)])
        self.assertEqual(hay(((0, 3), (20, 7), (90, 2))), [(6, 0), (7, 3), (0, 10)])

    def test_against_passings_one_by_one(self):
        for row in all_rows():
            for choose in CHOICES if len(row) < 9 else CHOICES[:2]:
                then, order, pairs = passed_till_last(row, choose)
                taken, paid = [0] * len(row), [0] * len(row)
                for one, other in pairs:
                    taken[one] += row[one][1]
                    paid[other] += row[one][1]
                self.assertEqual(repr(hay(row)), repr(list(zip(taken, paid))))

    def test_who_pays_is_weaker_by_so_much(self):
        for row in all_rows():
            then, order = last(row)
            for place, who in enumerate(order):
                self.assertEqual(row[who][0] - hay(row)[who][1], then[place][0])

    def test_a_last_row(self):
        for row in drawn_rows():
            self.assertEqual(hay(last(row)[0]), [(0, 0)] * len(row))

    def test_all_that_is_taken_is_paid(self):
        for row in all_rows():
            taken, paid = zip(*hay(row))
            self.assertEqual(sum(taken), sum(paid))
            self.assertGreaterEqual(min(taken + paid), 0)

    def test_far_numbers(self):
        row = ((-FAR, TOLL),) * 23 + ((FAR, TOLL),)
        self.assertEqual(hay(row), [(TOLL, 0)] * 23 + [(0, 23 * TOLL)])
        self.assertEqual(hay(stair(24, 3)), [(3 * (23 - who), 3 * who) for who in range(24)])
        self.assertEqual(hay(((FAR, TOLL),) * 24), [(0, 0)] * 24)


class HayBetween(unittest.TestCase):
    def test_by_hand(self):
        self.assertEqual(hay_between(ROW, (1, 0, 2, 3)), [(1, 0), (0, 1), (0, 0), (0, 0)])
        self.assertEqual(hay_between(ROW, (0, 1, 3, 2)), [(0, 0)] * 4)
        row = ((9, 4), (5, 1), (7, 2))
        # 9 falls back behind 5 and has 1 again, then behind 7 and has 2 again.
        self.assertEqual(hay_between(row, (1, 2, 0)), [(0, -3), (-1, 0), (-2, 0)])
        # 7 passes 5 as well.
        self.assertEqual(hay_between(row, (2, 1, 0)), [(0, -3), (0, 0), (-2, 1)])

    def test_against_ways_one_by_one(self):
        for row in few_rows():
            for order in reached(row):
                self.assertEqual(repr(hay_between(row, order)), repr(hay_of(row, way_to(row, order))[0]))

    def test_against_drawn_ways_that_come_back(self):
        for row in drawn_rows():
            for many in (1, 3, 20, 60):
                deeds = drawn_deeds(row, many)
                told, order = hay_of(row, deeds)
                self.assertEqual(order_behind(row, deeds), order)
                self.assertEqual(hay_between(row, order), told)
                told, order = hay_of(row, there_and_back(row, deeds))
                self.assertEqual(order, tuple(range(len(row))))
                self.assertEqual(told, [(0, 0)] * len(row))
                there = there_and_back(row, deeds) + deeds
                self.assertEqual(hay_of(row, there), (hay_between(row, order_behind(row, there)), order_behind(row, there)))

    def test_both_ends(self):
        for row in all_rows():
            self.assertEqual(hay_between(row, last(row)[1]), hay(row))
            taken, paid = zip(*hay_between(row, first(row)[1]))
            self.assertEqual(sum(taken), sum(paid))
            self.assertLessEqual(max(taken + paid), 0)

    def test_its_own_order(self):
        for row in all_rows():
            self.assertEqual(hay_between(row, tuple(range(len(row)))), [(0, 0)] * len(row))

    def test_from_one_end_to_the_other(self):
        for row in drawn_rows():
            start, order = first(row)
            goal = tuple(order.index(who) for who in last(row)[1])
            up, down = hay(row), hay_between(row, order)
            want = [(up[who][0] - down[who][0], up[who][1] - down[who][1]) for who in order]
            self.assertEqual(hay_between(start, goal), want)

    def test_orders_that_it_does_not_come_to(self):
        for row in few_rows():
            rows, pairs = reached(row), kept_pairs(row)
            for order in itertools.permutations(range(len(row))):
                if order not in rows:
                    want = [pair for pair in pairs if order.index(pair[1]) < order.index(pair[0])][0]
                    with self.assertRaises(NotKept) as caught:
                        hay_between(row, order)
                    self.assertEqual(repr(caught.exception.pair), repr(want))

    def test_of_twenty_four(self):
        with self.assertRaises(NotKept) as caught:
            hay_between(((FAR, TOLL),) * 24, tuple(reversed(range(24))))
        self.assertEqual(caught.exception.pair, (0, 1))
        row = ((FAR, TOLL),) + ((-FAR, TOLL),) * 23
        order = tuple(range(1, 24)) + (0,)
        self.assertEqual(hay_between(row, order), [(0, -23 * TOLL)] + [(-TOLL, 0)] * 23)
        draw = random.Random(3)
        order = tuple(draw.sample(range(24), 24))
        pairs = [(one, other) for one, other in passings(stair(24, 2)) if order.index(other) < order.index(one)]
        want = [
            (2 * sum(one == who for one, other in pairs), 2 * sum(other == who for one, other in pairs))
            for who in range(24)
        ]
        self.assertEqual(hay_between(stair(24, 2), order), want)


if __name__ == "__main__":
    unittest.main()
