import itertools
import random
import unittest

from hayherd.ends import last, passings
from hayherd.joined import across, joined, last_of, piece
from hayherd.rows import is_row
from tests.helper import CHOICES, FAR, all_rows, drawn_rows, passed_till_last, small_rows, stair

ROW = ((5, 1), (7, 2), (3, 0), (9, 4))
TOLL = 10 ** 9


def row_pairs():
    """Rows one behind the other: cut ones, and ones that have nothing to do with one another."""
    for row in drawn_rows():
        for cut in {1, len(row) // 2, len(row) - 1}:
            yield row[:cut], row[cut:]
    rows = list(small_rows())[::41]
    yield from itertools.product(rows, rows[::3])
    drawn = list(drawn_rows())
    yield from zip(drawn, reversed(drawn))


def parted(row, draw):
    """The row, cut into rows at drawn places."""
    cuts = sorted({0, len(row)} | {draw.randint(1, len(row)) for step in range(4)})
    return [row[begin:end] for begin, end in zip(cuts, cuts[1:])]


class Joined(unittest.TestCase):
    def test_by_hand(self):
        self.assertEqual(joined(ROW[:1], ROW[1:]), ROW)
        self.assertEqual(joined(((5, 1),), ((5, 1),)), ((5, 1), (5, 1)))
        self.assertEqual(joined(((9, 0),), ((3, 2),)), ((9, 0), (3, 2)))

    def test_ones_beasts_and_behind_them_others(self):
        for one, other in row_pairs():
            told = joined(one, other)
            self.assertIs(is_row(told), True)
            self.assertEqual(told, tuple(list(one) + list(other)))
            self.assertEqual((told[:len(one)], told[len(one):]), (one, other))

    def test_a_row_and_itself(self):
        for row in drawn_rows():
            self.assertEqual(joined(row, row), row * 2)
            self.assertEqual(joined(joined(row, row), row), joined(row, joined(row, row)))


class Across(unittest.TestCase):
    def test_by_hand(self):
        self.assertEqual(across(ROW[:2], ROW[2:]), [(0, 1)])
        self.assertEqual(across(ROW[:3], ROW[3:]), [(0, 0), (2, 0)])
        self.assertEqual(across(ROW[:1], ROW[1:]), [(0, 0), (0, 2)])
        self.assertEqual(across(((5, 1),), ((6, 0),)), [])
        self.assertEqual(across(((5, 1),), ((7, 0),)), [(0, 0)])

    def test_against_passings_one_by_one(self):
        for one, other in row_pairs():
            pairs = passed_till_last(one + other, CHOICES[0])[2]
            want = [(ahead, behind - len(one)) for ahead, behind in pairs if ahead < len(one) <= behind]
            self.assertEqual(repr(across(one, other)), repr(want))

    def test_all_passings_of_the_whole(self):
        for one, other in row_pairs():
            many = len(one)
            pairs = passings(one) + [(ahead + many, behind + many) for ahead, behind in passings(other)]
            pairs += [(ahead, behind + many) for ahead, behind in across(one, other)]
            self.assertEqual(sorted(pairs), passings(joined(one, other)))

    def test_rows_of_one_beast_and_of_twenty_four(self):
        self.assertEqual(across(stair(24), ((FAR, 0),)), [(place, 0) for place in range(24)])
        self.assertEqual(across(((-FAR, TOLL),), ((FAR, 0),) * 24), [(0, place) for place in range(24)])
        self.assertEqual(across(((FAR, 0),), stair(24)), [])
        both = list(itertools.product(range(24), repeat=2))
        self.assertEqual(across(((-FAR, TOLL),) * 24, ((FAR, TOLL),) * 24), both)


class Piece(unittest.TestCase):
    def test_by_hand(self):
        self.assertEqual(piece(ROW, 0, 4), ROW)
        self.assertEqual(piece(ROW, 1, 3), ((7, 2), (3, 0)))
        self.assertEqual(piece(ROW, 3, 4), ((9, 4),))
        self.assertEqual(piece(((5, 1),), 0, 1), ((5, 1),))

    def test_all_pieces(self):
        for row in drawn_rows():
            for begin, end in itertools.combinations(range(len(row) + 1), 2):
                told = piece(row, begin, end)
                self.assertIs(is_row(told), True)
                self.assertEqual(list(told), [row[place] for place in range(begin, end)])

    def test_put_together_again(self):
        for row in drawn_rows():
            for cut in range(1, len(row)):
                self.assertEqual(joined(piece(row, 0, cut), piece(row, cut, len(row))), row)

    def test_its_passings_are_those_of_the_whole(self):
        for row in all_rows():
            for begin, end in list(itertools.combinations(range(len(row) + 1), 2))[::3]:
                want = [(one - begin, other - begin) for one, other in passings(row) if begin <= one and other < end]
                self.assertEqual(passings(piece(row, begin, end)), want)

    def test_led_to_its_end_first(self):
        for row in all_rows():
            for begin, end in list(itertools.combinations(range(len(row) + 1), 2))[::3]:
                then, order = last(piece(row, begin, end))
                line = row[:begin] + then + row[end:]
                names = list(range(begin)) + [begin + who for who in order] + list(range(end, len(row)))
                told, stand = last(line)
                self.assertEqual((told, tuple(names[who] for who in stand)), last(row))


class LastOf(unittest.TestCase):
    def test_by_hand(self):
        self.assertEqual(last_of([ROW[:2], ROW[2:]]), ((6, 2), (8, 4), (5, 1), (3, 0)))
        self.assertEqual(last_of([ROW]), ((6, 2), (8, 4), (5, 1), (3, 0)))
        self.assertEqual(last_of((((5, 1),), ((6, 0),), ((8, 0),))), ((7, 0), (5, 1), (6, 0)))

    def test_one_row_alone(self):
        for row in drawn_rows():
            self.assertEqual(last_of([row]), last(row)[0])
            self.assertEqual(last_of((row,)), last(row)[0])

    def test_against_passings_of_all_joined(self):
        draw = random.Random(12)
        for row in all_rows():
            rows = parted(row, draw)
            kept = list(rows)
            want = passed_till_last(row, CHOICES[1])[0]
            self.assertEqual(repr(last_of(rows)), repr(want))
            self.assertEqual(repr(last_of(tuple(rows))), repr(want))
            self.assertEqual(rows, kept)

    def test_each_led_to_its_end_by_itself(self):
        draw = random.Random(13)
        for row in all_rows():
            rows = parted(row, draw)
            self.assertEqual(last_of([last(part)[0] for part in rows]), last(row)[0])
            self.assertEqual(last_of([last_of(rows[:1])] + rows[1:]), last(row)[0])
            self.assertEqual(last_of(rows[:1] + [last_of(rows[1:])] if rows[1:] else rows), last(row)[0])

    def test_rows_of_one_beast_each(self):
        for row in drawn_rows():
            self.assertEqual(last_of([(beast,) for beast in row]), last(row)[0])

    def test_the_same_row_several_times(self):
        for row in list(drawn_rows())[::7]:
            self.assertEqual(last_of([row] * 5), last(row * 5)[0])


if __name__ == "__main__":
    unittest.main()
