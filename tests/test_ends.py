import unittest

from hayherd.ends import fallings, first, is_first, is_last, last, passings
from hayherd.rows import fallen, is_order, is_row, may_fall, may_pass, passed
from tests.helper import CHOICES, FAR, all_rows, drawn_rows, passed_till_last, small_rows

ROW = ((5, 1), (7, 2), (3, 0), (9, 4))


def fallen_till_first(row, choose):
    """Row, ORDER and the sorted list of pairs (who falls back, behind whom), one falling after the other."""
    order, pairs = list(range(len(row))), []
    places = may_fall(row)
    while places:
        place = choose(places, len(pairs))
        row = fallen(row, place)
        pairs.append((order[place], order[place + 1]))
        order[place], order[place + 1] = order[place + 1], order[place]
        places = may_fall(row)
        # No pair does it twice: where it went on for ever, the test shall fail and not hang.
        assert len(pairs) <= len(row) * (len(row) - 1) // 2
    return row, tuple(order), sorted(pairs)


def all_ends(row, may, done):
    """Each row without a further move that any sequence of moves leads to."""
    seen, ends, waiting = {row}, set(), [row]
    while waiting:
        now = waiting.pop()
        assert len(seen) <= 1000
        for place in may(now):
            then = done(now, place)
            if then not in seen:
                seen.add(then)
                waiting.append(then)
        if not may(now):
            ends.add(now)
    return ends


class Last(unittest.TestCase):
    def test_an_ordinary_row(self):
        # 7 passes 5 for 1; 9 passes 3 for 0 and 5 for 1, but with 8 less 2 it isn't above 6.
        self.assertEqual(last(ROW), (((6, 2), (8, 4), (5, 1), (3, 0)), (1, 3, 0, 2)))
        self.assertEqual(passings(ROW), [(0, 1), (0, 3), (2, 3)])

    def test_two(self):
        self.assertEqual(last(((5, 3), (9, 1))), (((6, 1), (5, 3)), (1, 0)))
        self.assertEqual(last(((5, 3), (8, 1))), (((5, 3), (8, 1)), (0, 1)))

    def test_stopped_by_one_in_between(self):
        # The hindmost would pass the front one, but doesn't get past the one between.
        row = ((1, 40), (41, 1), (42, 0))
        self.assertEqual(last(row), (row, (0, 1, 2)))
        self.assertEqual(passings(row), [])
        self.assertEqual(passings(row[:1] + row[2:]), [(0, 1)])

    def test_the_one_between_goes_ahead_first(self):
        row = ((1, 0), (50, 1), (40, 0))
        self.assertEqual(last(row), (((50, 1), (40, 0), (1, 0)), (1, 2, 0)))
        self.assertEqual(passings(row), [(0, 1), (0, 2)])

    def test_is_a_pair_of_a_row_and_an_order(self):
        for row in all_rows():
            told = last(row)
            self.assertIs(type(told), tuple)
            self.assertEqual(len(told), 2)
            self.assertIs(is_row(told[0]), True)
            self.assertIs(is_order(row, told[1]), True)
            self.assertEqual([toll for strength, toll in told[0]], [row[who][1] for who in told[1]])
            self.assertEqual(may_pass(told[0]), [])

    def test_whatever_order_they_pass_in(self):
        for row in all_rows():
            for choose in CHOICES:
                then, order, pairs = passed_till_last(row, choose)
                self.assertEqual(last(row), (then, order))
                self.assertEqual(passings(row), pairs)

    def test_all_ways_end_there(self):
        rows = [row for row in drawn_rows() if len(row) <= 5] + list(small_rows())[::5]
        for row in rows:
            self.assertEqual(all_ends(row, may_pass, passed), {last(row)[0]})

    def test_of_a_last_row_itself(self):
        for row in all_rows():
            then = last(row)[0]
            self.assertEqual(last(then), (then, tuple(range(len(row)))))
            self.assertEqual(passings(then), [])

    def test_of_one(self):
        for beast in ((0, 0), (-FAR, 10 ** 9), (FAR, 0)):
            self.assertEqual(last((beast,)), ((beast,), (0,)))
            self.assertEqual(passings((beast,)), [])

    def test_of_twenty_four(self):
        row = tuple((strength, 0) for strength in range(24))
        self.assertEqual(last(row), (row[::-1], tuple(reversed(range(24)))))
        self.assertEqual(len(passings(row)), 276)
        self.assertEqual(last(row[::-1]), (row[::-1], tuple(range(24))))
        self.assertEqual(last(((5, 1),) * 24), (((5, 1),) * 24, tuple(range(24))))

    def test_far_strengths(self):
        toll = 10 ** 9
        row = ((-FAR, toll),) * 23 + ((FAR, toll),)
        told = ((FAR - 23 * toll, toll),) + ((-FAR, toll),) * 23
        self.assertEqual(last(row), (told, (23,) + tuple(range(23))))
        self.assertEqual(passings(row), [(one, 23) for one in range(23)])
        row = ((FAR, toll),) * 23 + ((-FAR, toll),)
        self.assertEqual(last(row), (row, tuple(range(24))))

    def test_by_name(self):
        self.assertEqual(last(row=ROW), last(ROW))


class First(unittest.TestCase):
    def test_an_ordinary_row(self):
        # 7 falls behind 3 for 0, 5 falls behind 3 for 0; 7 and 9 stay.
        self.assertEqual(first(ROW), (((3, 0), (5, 1), (7, 2), (9, 4)), (2, 0, 1, 3)))
        self.assertEqual(fallings(ROW), [(0, 2), (1, 2)])

    def test_two(self):
        self.assertEqual(first(((6, 3), (5, 2))), (((5, 2), (8, 3)), (1, 0)))
        self.assertEqual(first(((5, 3), (5, 2))), (((5, 3), (5, 2)), (0, 1)))

    def test_stronger_with_each(self):
        row = ((4, 1), (3, 4), (7, 9))
        self.assertEqual(first(row), (((3, 4), (7, 9), (17, 1)), (1, 2, 0)))
        self.assertEqual(fallings(row), [(0, 1), (0, 2)])

    def test_is_a_pair_of_a_row_and_an_order(self):
        for row in all_rows():
            told = first(row)
            self.assertIs(type(told), tuple)
            self.assertEqual(len(told), 2)
            self.assertIs(is_row(told[0]), True)
            self.assertIs(is_order(row, told[1]), True)
            self.assertEqual([toll for strength, toll in told[0]], [row[who][1] for who in told[1]])
            self.assertEqual(may_fall(told[0]), [])

    def test_whatever_order_they_fall_back_in(self):
        for row in all_rows():
            for choose in CHOICES:
                then, order, pairs = fallen_till_first(row, choose)
                self.assertEqual(first(row), (then, order))
                self.assertEqual(fallings(row), pairs)

    def test_all_ways_end_there(self):
        rows = [row for row in drawn_rows() if len(row) <= 5] + list(small_rows())[::5]
        for row in rows:
            self.assertEqual(all_ends(row, may_fall, fallen), {first(row)[0]})

    def test_of_a_first_row_itself(self):
        for row in all_rows():
            then = first(row)[0]
            self.assertEqual(first(then), (then, tuple(range(len(row)))))
            self.assertEqual(fallings(then), [])

    def test_the_ends_lead_to_one_another(self):
        for row in all_rows():
            self.assertEqual(last(first(row)[0])[0], last(row)[0])
            self.assertEqual(first(last(row)[0])[0], first(row)[0])

    def test_of_one(self):
        for beast in ((0, 0), (-FAR, 10 ** 9), (FAR, 0)):
            self.assertEqual(first((beast,)), ((beast,), (0,)))
            self.assertEqual(fallings((beast,)), [])

    def test_of_twenty_four(self):
        row = tuple((strength, 0) for strength in range(24))
        self.assertEqual(first(row[::-1]), (row, tuple(reversed(range(24)))))
        self.assertEqual(len(fallings(row[::-1])), 276)
        self.assertEqual(first(row), (row, tuple(range(24))))
        self.assertEqual(first(((5, 1),) * 24), (((5, 1),) * 24, tuple(range(24))))

    def test_far_strengths(self):
        toll = 10 ** 9
        row = ((FAR, toll),) + ((-FAR, toll),) * 23
        told = ((-FAR, toll),) * 23 + ((FAR + 23 * toll, toll),)
        self.assertEqual(first(row), (told, tuple(range(1, 24)) + (0,)))
        self.assertEqual(fallings(row), [(0, other) for other in range(1, 24)])
        row = ((-FAR, toll),) + ((FAR, toll),) * 23
        self.assertEqual(first(row), (row, tuple(range(24))))

    def test_by_name(self):
        self.assertEqual(first(row=ROW), first(ROW))


class Pairs(unittest.TestCase):
    def test_rising_lists_of_pairs_of_places(self):
        for row in all_rows():
            for ask in (passings, fallings):
                told = ask(row)
                self.assertIs(type(told), list)
                self.assertEqual(told, sorted(set(told)))
                for pair in told:
                    self.assertIs(type(pair), tuple)
                    one, other = pair
                    self.assertTrue(0 <= one < other < len(row))

    def test_bare_at_the_ends(self):
        for row in drawn_rows():
            self.assertEqual(passings(last(row)[0]), [])
            self.assertEqual(fallings(first(row)[0]), [])

    def test_places_are_those_in_row_not_on_the_way(self):
        row = ((0, 0), (1, 0), (9, 0))
        self.assertEqual(passings(row), [(0, 1), (0, 2), (1, 2)])
        row = ((5, 0), (0, 0), (9, 0))
        self.assertEqual(passings(row), [(0, 2), (1, 2)])
        row = ((5, 0), (9, 0), (0, 0))
        self.assertEqual(fallings(row), [(0, 2), (1, 2)])

    def test_who_may_now_is_among_them(self):
        for row in all_rows():
            for place in may_pass(row):
                self.assertIn((place - 1, place), passings(row))
            for place in may_fall(row):
                self.assertIn((place, place + 1), fallings(row))

    def test_by_name(self):
        self.assertEqual(passings(row=ROW), passings(ROW))
        self.assertEqual(fallings(row=ROW), fallings(ROW))


class AtTheEnd(unittest.TestCase):
    def test_ordinary_rows(self):
        for row, at_last, at_first in (
            (ROW, False, False),
            (((5, 0), (4, 0)), True, False),
            (((4, 0), (5, 0)), False, True),
            (((5, 0), (5, 0)), True, True),
            (((4, 1), (5, 0)), True, True),
            (((4, 1), (6, 0)), False, True),
        ):
            self.assertIs(is_last(row), at_last)
            self.assertIs(is_first(row), at_first)

    def test_of_one_both(self):
        for beast in ((0, 0), (-FAR, 1), (FAR, 10 ** 9)):
            self.assertIs(is_last((beast,)), True)
            self.assertIs(is_first((beast,)), True)

    def test_just_where_the_end_is_the_row(self):
        for row in all_rows():
            self.assertIs(is_last(row), last(row)[0] == row and passings(row) == [])
            self.assertIs(is_first(row), first(row)[0] == row and fallings(row) == [])
            self.assertIs(is_last(last(row)[0]), True)
            self.assertIs(is_first(first(row)[0]), True)

    def test_by_name(self):
        self.assertIs(is_last(row=ROW), False)
        self.assertIs(is_first(row=ROW), False)


class AskedAgain(unittest.TestCase):
    def test_a_told_list_is_the_askers_own(self):
        for row in (ROW, ((5, 1),)):
            for ask in (passings, fallings):
                told = ask(row)
                want = list(told)
                told.append((7, 8))
                told.reverse()
                self.assertEqual(ask(row), want)
                self.assertIsNot(ask(row), ask(row))

    def test_asked_again_the_same(self):
        asks = (last, first, passings, fallings, is_last, is_first)
        for row in drawn_rows():
            once = [ask(row) for ask in asks]
            self.assertEqual([ask(row) for ask in asks], once)
            self.assertEqual([ask(row) for ask in reversed(asks)], once[::-1])

    def test_what_is_handed_in_stays(self):
        row = tuple((strength, toll) for strength, toll in ROW)
        for ask in (last, first, passings, fallings, is_last, is_first):
            ask(row)
            self.assertEqual(row, ((5, 1), (7, 2), (3, 0), (9, 4)))

    def test_what_was_told_may_be_handed_in_again(self):
        # Strengths grow beyond the bounds on what is handed in.
        row = ((FAR, 10 ** 9),) + ((FAR - 1, 10 ** 9),) * 23
        then = first(row)[0]
        self.assertGreater(then[-1][0], FAR)
        self.assertEqual(last(then)[0], last(row)[0])
        self.assertEqual(passings(then), [(one, 23) for one in range(23)])


if __name__ == "__main__":
    unittest.main()
