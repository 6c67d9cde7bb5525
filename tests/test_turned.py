import unittest

from hayherd.ends import fallings, first, is_first, is_last, last, passings
from hayherd.rows import fallen, is_row, may_fall, may_pass, passed
from hayherd.turned import turned, weighed
from tests.helper import FAR, all_rows, drawn_rows

ROW = ((5, 1), (7, 2), (3, 0), (9, 4))


class Turned(unittest.TestCase):
    def test_by_hand(self):
        # Ahead of them are tolls of 0, 1, 3 and 3.
        self.assertEqual(turned(ROW), ((-5, 1), (-6, 2), (0, 0), (-6, 4)))
        self.assertEqual(turned(((10, 3), (1, 5), (0, 7))), ((-10, 3), (2, 5), (8, 7)))

    def test_below_0(self):
        self.assertEqual(turned(((-5, 1), (-7, 2), (-1, 0))), ((5, 1), (8, 2), (4, 0)))

    def test_tolls_of_0(self):
        self.assertEqual(turned(((5, 0), (-7, 0), (0, 0))), ((-5, 0), (7, 0), (0, 0)))

    def test_one_beast(self):
        for strength in (-FAR, -3, 0, 3, FAR):
            for toll in (0, 1, 10 ** 9):
                self.assertEqual(turned(((strength, toll),)), ((-strength, toll),))

    def test_of_twenty_four(self):
        row = ((FAR, 10 ** 9),) * 24
        self.assertEqual(turned(row), tuple((place * 10 ** 9 - FAR, 10 ** 9) for place in range(24)))

    def test_by_sums(self):
        for row in all_rows():
            told = turned(row)
            self.assertIs(is_row(told), True)
            self.assertEqual(len(told), len(row))
            for place, (strength, toll) in enumerate(row):
                ahead = sum(other[1] for other in row[:place])
                self.assertEqual(told[place], (ahead - strength, toll))

    def test_twice_it_is_the_row(self):
        for row in all_rows():
            self.assertEqual(turned(turned(row)), row)

    def test_who_may_pass_may_be_passed_back(self):
        for row in all_rows():
            self.assertEqual(may_fall(turned(row)), [place - 1 for place in may_pass(row)])
            self.assertEqual(may_pass(turned(row)), [place + 1 for place in may_fall(row)])
            self.assertIs(is_first(turned(row)), is_last(row))
            self.assertIs(is_last(turned(row)), is_first(row))

    def test_falls_where_it_passes(self):
        for row in all_rows():
            for place in may_pass(row):
                self.assertEqual(turned(passed(row, place)), fallen(turned(row), place - 1))
            for place in may_fall(row):
                self.assertEqual(turned(fallen(row, place)), passed(turned(row), place + 1))

    def test_passing_for_passing_to_the_end(self):
        for row in all_rows():
            self.assertEqual(fallings(turned(row)), passings(row))
            self.assertEqual(passings(turned(row)), fallings(row))
            then, order = last(row)
            self.assertEqual(first(turned(row)), (turned(then), order))


class Weighed(unittest.TestCase):
    def test_by_hand(self):
        self.assertEqual(weighed(ROW), [5, 6, 0, 6])
        self.assertEqual(weighed(((10, 3), (1, 5), (0, 7))), [10, -2, -8])

    def test_below_0_tolls_of_0_one_beast(self):
        self.assertEqual(weighed(((-5, 1), (-7, 2), (-1, 0))), [-5, -8, -4])
        self.assertEqual(weighed(((5, 0), (-7, 0), (0, 0))), [5, -7, 0])
        self.assertEqual(weighed(((-5, 9),)), [-5])

    def test_by_sums(self):
        for row in all_rows():
            told = weighed(row)
            self.assertIs(type(told), list)
            self.assertEqual(told, [
                strength - sum(other[1] for other in row[:place])
                for place, (strength, toll) in enumerate(row)
            ])

    def test_one_may_pass_just_where_it_is_more(self):
        for row in all_rows():
            told = weighed(row)
            self.assertEqual(may_pass(row), [at for at in range(1, len(row)) if told[at] > told[at - 1]])

    def test_who_passes_keeps_it_who_is_passed_has_less(self):
        for row in all_rows():
            for place in may_pass(row):
                want = weighed(row)
                want[place - 1], want[place] = want[place], want[place - 1] - row[place][1]
                self.assertEqual(weighed(passed(row, place)), want)

    def test_far_numbers(self):
        row = ((FAR, 10 ** 9), (-FAR, 10 ** 9)) * 12
        self.assertEqual(weighed(row)[22:], [FAR - 22 * 10 ** 9, -FAR - 23 * 10 ** 9])

    def test_told_rows_may_be_handed_in_again(self):
        for row in drawn_rows():
            then = turned(first(row)[0])
            self.assertEqual(turned(then), first(row)[0])
            self.assertEqual(weighed(then), [-strength for strength, toll in first(row)[0]])


if __name__ == "__main__":
    unittest.main()
