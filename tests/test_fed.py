import itertools
import random
import unittest

from hayherd.ends import last, passings
from hayherd.fed import asking, fed, least_feed, unlike
from hayherd.rows import is_row
from tests.helper import CHOICES, FAR, all_rows, drawn_rows, passed_till_last, small_rows, stair

ROW = ((5, 1), (7, 2), (3, 0), (9, 4))
FEEDS = (-FAR, -3, -1, 0, 1, 2, 7, FAR)
TOLL = 10 ** 9


def some_rows():
    """All drawn rows, and some of the small ones."""
    return list(drawn_rows()) + list(small_rows())[::11]


def place_in_last(row, who):
    """Told by passings done one by one."""
    return passed_till_last(row, CHOICES[0])[1].index(who)


class Fed(unittest.TestCase):
    def test_by_hand(self):
        self.assertEqual(fed(ROW, 1, 3), ((5, 1), (10, 2), (3, 0), (9, 4)))
        self.assertEqual(fed(ROW, 1, -30), ((5, 1), (-23, 2), (3, 0), (9, 4)))
        self.assertEqual(fed(ROW, 0, 1), ((6, 1), (7, 2), (3, 0), (9, 4)))
        self.assertEqual(fed(ROW, 3, -9), ((5, 1), (7, 2), (3, 0), (0, 4)))
        self.assertEqual(fed(((5, 1),), 0, FAR), ((FAR + 5, 1),))

    def test_one_number_alone_is_another(self):
        for row in some_rows():
            for who in {0, len(row) // 2, len(row) - 1}:
                for by in FEEDS:
                    told = fed(row, who, by)
                    self.assertIs(is_row(told), True)
                    want = [list(beast) for beast in row]
                    want[who][0] += by
                    self.assertEqual([list(beast) for beast in told], want)

    def test_by_nothing_and_back(self):
        for row in some_rows():
            kept = tuple(row)
            for who in range(len(row)):
                self.assertEqual(fed(row, who, 0), kept)
                self.assertEqual(fed(fed(row, who, 17), who, -17), kept)
            self.assertEqual(row, kept)


class Asking(unittest.TestCase):
    def test_by_hand(self):
        self.assertEqual(asking(ROW, 1, 9), ((5, 1), (7, 9), (3, 0), (9, 4)))
        self.assertEqual(asking(ROW, 0, 0), ((5, 0), (7, 2), (3, 0), (9, 4)))
        self.assertEqual(asking(ROW, 3, TOLL), ((5, 1), (7, 2), (3, 0), (9, TOLL)))
        self.assertEqual(asking(((5, 1),), 0, 0), ((5, 0),))

    def test_one_number_alone_is_another(self):
        for row in some_rows():
            for who in {0, len(row) // 2, len(row) - 1}:
                for toll in (0, 1, 40, TOLL):
                    told = asking(row, who, toll)
                    self.assertIs(is_row(told), True)
                    want = [list(beast) for beast in row]
                    want[who][1] = toll
                    self.assertEqual([list(beast) for beast in told], want)

    def test_what_it_was_and_back(self):
        for row in some_rows():
            kept = tuple(row)
            for who in range(len(row)):
                self.assertEqual(asking(row, who, row[who][1]), kept)
                self.assertEqual(asking(asking(row, who, 77), who, row[who][1]), kept)
            self.assertEqual(row, kept)


class Unlike(unittest.TestCase):
    def test_by_hand(self):
        self.assertEqual(unlike(ROW, asking(ROW, 0, 9)), ([], [(0, 1), (0, 3)]))
        self.assertEqual(unlike(asking(ROW, 0, 9), ROW), ([(0, 1), (0, 3)], []))
        # 3 fed by 6 passes 5, and 9 doesn't pass it any more.
        self.assertEqual(unlike(ROW, fed(ROW, 2, 6)), ([(0, 2)], [(2, 3)]))
        self.assertEqual(unlike(((5, 1),), ((9, 0),)), ([], []))

    def test_against_passings_of_both(self):
        rows = some_rows()
        for row, other in itertools.product(rows, rows[::5]):
            if len(row) == len(other):
                here, there = set(passings(row)), set(passings(other))
                told = unlike(row, other)
                self.assertIs(type(told), tuple)
                self.assertEqual(repr(told), repr((sorted(there - here), sorted(here - there))))

    def test_of_a_row_and_itself(self):
        for row in some_rows():
            told = unlike(row, row)
            self.assertEqual(told, ([], []))
            self.assertIsNot(told[0], told[1])

    def test_nothing_in_common_but_how_many(self):
        pairs = list(itertools.combinations(range(24), 2))
        self.assertEqual(unlike(stair(24), ((FAR, TOLL),) * 24), ([], pairs))
        self.assertEqual(unlike(((FAR, TOLL),) * 24, stair(24)), (pairs, []))
        self.assertEqual(unlike(((0, 0), (9, 0), (1, 0)), ((7, 3), (2, 1), (90, 8))), ([(1, 2)], [(0, 1)]))


class LeastFeed(unittest.TestCase):
    def test_by_hand(self):
        want = [[1, 1, 0, 0], [0, 0, 0, 0], [7, 6, 4, 0], [1, 0, 0, 0]]
        self.assertEqual([[least_feed(ROW, who, place) for place in range(4)] for who in range(4)], want)
        self.assertEqual(least_feed(((5, 1),), 0, 0), 0)
        self.assertEqual([least_feed(((5, 1), (5, 1)), 1, place) for place in (0, 1)], [2, 0])

    def test_it_stands_so_and_with_one_less_it_does_not(self):
        for row in all_rows():
            for who in {0, len(row) // 3, len(row) // 2, len(row) - 1}:
                for place in {0, len(row) // 2, len(row) - 1}:
                    least = least_feed(row, who, place)
                    self.assertIs(type(least), int)
                    self.assertGreaterEqual(least, 0)
                    self.assertLessEqual(last(fed(row, who, least))[1].index(who), place)
                    if least > 0:
                        self.assertGreater(last(fed(row, who, least - 1))[1].index(who), place)

    def test_the_least_by_going_through_all(self):
        for row in list(small_rows())[::9]:
            for who in range(len(row)):
                for place in range(len(row)):
                    want = 0
                    while place_in_last(fed(row, who, want), who) > place:
                        want += 1
                    self.assertEqual(least_feed(row, who, place), want)

    def test_where_it_stands_so_already(self):
        for row in drawn_rows():
            for place, who in enumerate(last(row)[1]):
                self.assertEqual(least_feed(row, who, place), 0)
                self.assertEqual(least_feed(row, who, len(row) - 1), 0)
                if place > 0:
                    self.assertGreater(least_feed(row, who, place - 1), 0)

    def test_no_less_for_a_place_further_ahead(self):
        for row in drawn_rows():
            for who in (0, len(row) - 1):
                told = [least_feed(row, who, place) for place in range(len(row))]
                self.assertEqual(told, sorted(told, reverse=True))

    def test_the_weakest_behind_the_strongest(self):
        for toll in (0, TOLL):
            row = ((FAR, toll), (-FAR, 0))
            self.assertEqual(least_feed(row, 1, 0), 2 * FAR + toll + 1)
            self.assertEqual(least_feed(row, 1, 1), 0)
            row = ((FAR, toll),) * 23 + ((-FAR, toll),)
            for place in range(24):
                want = 0 if place == 23 else 2 * FAR + (23 - place) * toll + 1
                self.assertEqual(least_feed(row, 23, place), want)

    def test_the_front_that_all_pass(self):
        row = ((-FAR, 0),) + ((FAR, 0),) * 23
        self.assertEqual([least_feed(row, 0, place) for place in (0, 1, 22, 23)], [2 * FAR] * 3 + [0])
        # With a toll of its own it's left alone the sooner.
        row = ((-FAR, TOLL),) + ((FAR, 0),) * 23
        self.assertEqual(least_feed(row, 0, 0), 2 * FAR - TOLL)
        # Whom one more doesn't pass, that one's toll stops, too.
        row = ((0, 1), (10, 5), (14, 0))
        self.assertEqual([least_feed(row, 0, place) for place in range(3)], [9, 9, 0])

    def test_alike_strengths_far_apart(self):
        for strength in (-FAR, FAR):
            row = ((strength, 0),) * 24
            self.assertEqual([least_feed(row, 12, place) for place in (0, 11, 12, 23)], [1, 1, 0, 0])
            row = ((strength, TOLL),) * 24
            self.assertEqual(least_feed(row, 12, 11), TOLL + 1)
            self.assertEqual(least_feed(row, 12, 0), 12 * TOLL + 1)


class PromiseOfFeeding(unittest.TestCase):
    def test_one_that_is_fed(self):
        draw = random.Random(10)
        for row in all_rows():
            before = set(passings(row))
            for who in {0, len(row) // 2, len(row) - 1, draw.randrange(len(row))}:
                for by in (1, 3, draw.randint(1, 40), FAR):
                    then = set(passings(fed(row, who, by)))
                    # It passes no fewer, is passed by no more, and nobody else loses a passing.
                    self.assertFalse([pair for pair in before - then if pair[0] != who])
                    self.assertFalse([pair for pair in then - before if pair[0] == who])

    def test_told_by_unlike(self):
        for row in drawn_rows():
            for who in range(len(row)):
                new, gone = unlike(row, fed(row, who, 5))
                self.assertNotIn(who, [one for one, other in new])
                self.assertLessEqual({one for one, other in gone}, {who})

    def test_one_that_has_to_fast(self):
        for row in drawn_rows():
            for who in range(len(row)):
                new, gone = unlike(row, fed(row, who, -5))
                self.assertNotIn(who, [one for one, other in gone])
                self.assertLessEqual({one for one, other in new}, {who})

    def test_a_toll_raised(self):
        draw = random.Random(11)
        for row in all_rows():
            before = set(passings(row))
            for who in {0, len(row) // 2, len(row) - 1, draw.randrange(len(row))}:
                for more in (1, 2, draw.randint(1, 40), TOLL):
                    told = asking(row, who, row[who][1] + more)
                    self.assertLessEqual(set(passings(told)), before)
                    self.assertEqual(unlike(row, told)[0], [])


if __name__ == "__main__":
    unittest.main()
