import random
import unittest

from hayherd.ends import last, passings
from hayherd.never import ever, least_strength, never, shows_never, stopped_by
from hayherd.rows import may_pass, passed
from tests.helper import FAR, NO_THINGS, all_rows, drawn_rows, nested, stair

ROW = ((5, 1), (7, 2), (3, 0), (9, 4))
STOPPED = ((1, 40), (41, 1), (42, 0))


def pairs_of(row):
    return [(one, other) for one in range(len(row)) for other in range(one + 1, len(row))]


def with_strength(row, who, strength):
    return row[:who] + ((strength, row[who][1]),) + row[who + 1:]


class Never(unittest.TestCase):
    def test_by_hand(self):
        self.assertEqual(never(ROW), [[2], [2, 3], [], []])
        # 42 less 40 is above 1, but the one between asks a toll first, and lets it be no more than 41.
        self.assertEqual(never(STOPPED), [[1, 2], [2], []])
        self.assertEqual(never(STOPPED[:1] + STOPPED[2:]), [[], []])

    def test_the_tolls_of_those_that_stay_add_up(self):
        row = ((0, 1), (1, 2), (3, 4), (7, 8), (15, 0), (16, 0))
        self.assertEqual(never(row)[0], [1, 2, 3, 4])
        # One that passes goes out of the way, its toll isn't asked.
        row = ((0, 1), (2, 50), (2, 0))
        self.assertEqual(never(row), [[], [2], []])

    def test_against_passings(self):
        for row in all_rows():
            passing = set(passings(row))
            want = [
                [other for other in range(one + 1, len(row)) if (one, other) not in passing]
                for one in range(len(row))
            ]
            self.assertEqual(repr(never(row)), repr(want))

    def test_the_hindmost_has_a_bare_list(self):
        for row in all_rows():
            told = never(row)
            self.assertEqual(len(told), len(row))
            self.assertEqual(told[-1], [])
        self.assertEqual(never(((5, 1),)), [[]])

    def test_of_twenty_four(self):
        self.assertEqual(never(stair(24, 3)), [[]] * 24)
        self.assertEqual(never(((5, 1),) * 24), [list(range(one + 1, 24)) for one in range(24)])
        row = ((-FAR, 10 ** 9),) * 23 + ((FAR, 0),)
        self.assertEqual(never(row), [list(range(one + 1, 23)) for one in range(24)])


class ShowsNever(unittest.TestCase):
    def assert_shows(self, row, thing, so):
        self.assertIs(shows_never(row, thing), so, repr(thing)[:80])

    def test_the_list_itself(self):
        for row in all_rows():
            self.assert_shows(row, never(row), True)
            self.assert_shows(row, [list(part) for part in never(row)], True)
        self.assert_shows(ROW, [[2], [2, 3], [], []], True)
        self.assert_shows(((5, 1),), [[]], True)

    def test_of_another_row(self):
        self.assert_shows(ROW, never(ROW[:3]), False)
        self.assert_shows(ROW[:3], never(ROW), False)
        self.assert_shows(ROW, never(stair(4)), False)
        self.assert_shows(stair(4), never(stair(5)), False)

    def test_tuples_for_lists(self):
        for row in drawn_rows():
            told = never(row)
            self.assert_shows(row, tuple(told), False)
            self.assert_shows(row, [tuple(part) for part in told], False)
            for at in range(len(row)):
                self.assert_shows(row, told[:at] + [tuple(told[at])] + told[at + 1:], False)

    def test_true_and_false_for_numbers(self):
        row = ((5, 1),) * 3
        self.assert_shows(row, [[1, 2], [2], []], True)
        self.assert_shows(row, [[True, 2], [2], []], False)
        self.assert_shows(((5, 1), (5, 1)), [[True], []], False)
        self.assert_shows(stair(2), [[False], []], False)
        self.assert_shows(stair(2), [False, []], False)
        self.assert_shows(stair(2), [[], False], False)
        self.assert_shows(stair(1), [False], False)

    def test_each_number_and_each_list_changed(self):
        for row in drawn_rows():
            told = never(row)
            for at, part in enumerate(told):
                for instead in (
                    part + [len(row)], part + [at], [at] + part, part + [-1], part + part[-1:] + [None],
                    [part], None, 0, "", (), [[]], [None], [""], ["2"],
                ):
                    self.assert_shows(row, told[:at] + [instead] + told[at + 1:], False)
                for other in range(at + 1, len(row)):
                    instead = sorted(set(part) ^ {other})
                    self.assert_shows(row, told[:at] + [instead] + told[at + 1:], False)

    def test_out_of_order_twice_too_few(self):
        row = ((5, 1),) * 4
        self.assert_shows(row, [[1, 2, 3], [2, 3], [3], []], True)
        for part in ([2, 1, 3], [3, 2, 1], [1, 2, 3, 3], [1, 1, 2, 3], [1, 2], [2, 3], [], [1, 2, 3, 4], [1, 2, "3"]):
            self.assert_shows(row, [part, [2, 3], [3], []], False)
        self.assert_shows(row, [[2, 3], [1, 2, 3], [3], []], False)
        self.assert_shows(row, [[], [3], [2, 3], [1, 2, 3]], False)

    def test_a_list_too_many_too_few(self):
        for row in drawn_rows():
            told = never(row)
            self.assert_shows(row, told + [[]], False)
            self.assert_shows(row, told[:-1], False)
            self.assert_shows(row, [[]] + told, False)
            self.assert_shows(row, [told], False)
            self.assert_shows(row, (told,), False)
            self.assert_shows(row, repr(told), False)

    def test_things_of_any_kind(self):
        for row in (ROW, ((5, 1),), ((5, 1),) * 24, stair(24)):
            for thing in NO_THINGS + ([None], [0], ["a"], [[0]], [[None]], [[[]]], [[], []]):
                self.assert_shows(row, thing, False)
            for depth in range(13):
                self.assert_shows(row, nested(depth), False)
                self.assert_shows(row, [nested(max(depth, 1) - 1)] * len(row), False)


class Ever(unittest.TestCase):
    def test_by_hand(self):
        for one, other, so in ((0, 1, True), (0, 2, False), (0, 3, True), (1, 2, False), (1, 3, False), (2, 3, True)):
            self.assertIs(ever(ROW, one, other), so)

    def test_against_passings(self):
        for row in all_rows():
            passing = set(passings(row))
            for one, other in pairs_of(row):
                self.assertIs(ever(row, one, other), (one, other) in passing)

    def test_hangs_on_the_beasts_between_alone(self):
        draw = random.Random(7)
        for row in drawn_rows():
            for one, other in pairs_of(row)[::5]:
                so = ever(row, one, other)
                ahead = tuple((draw.randint(-50, 50), draw.randint(0, 9)) for beast in range(draw.randint(0, 4)))
                behind = tuple((draw.randint(-50, 50), draw.randint(0, 9)) for beast in range(draw.randint(0, 4)))
                line = ahead + row[one:other + 1] + behind
                pair = (len(ahead), len(ahead) + other - one)
                self.assertIs(ever(line, *pair), so)
                self.assertIs(pair in passings(line), so)


class LeastStrength(unittest.TestCase):
    def test_by_hand(self):
        self.assertEqual(least_strength(ROW, 0, 1), 7)
        self.assertEqual(least_strength(ROW, 1, 2), 10)
        # 7 passes 5, 3 doesn't, but asks no toll.
        self.assertEqual(least_strength(ROW, 0, 3), 7)
        self.assertEqual(least_strength(ROW, 1, 3), 10)
        self.assertEqual(least_strength(STOPPED, 0, 1), 42)
        self.assertEqual(least_strength(STOPPED, 0, 2), 43)
        self.assertEqual(least_strength(((-7, 0), (0, 0)), 0, 1), -6)

    def test_with_it_other_passes_with_one_less_not(self):
        for row in all_rows():
            for one, other in pairs_of(row)[:40]:
                least = least_strength(row, one, other)
                self.assertIn((one, other), passings(with_strength(row, other, least)))
                self.assertNotIn((one, other), passings(with_strength(row, other, least - 1)))

    def test_far_above_and_far_below(self):
        for row in drawn_rows():
            for one, other in pairs_of(row)[::7]:
                far = 10 ** 15
                self.assertIs(ever(with_strength(row, other, far), one, other), True)
                self.assertIs(ever(with_strength(row, other, -far), one, other), False)

    def test_whatever_others_strength_was_and_whoever_stands_behind(self):
        for row in drawn_rows():
            for one, other in pairs_of(row)[::3]:
                least = least_strength(row, one, other)
                for strength in (-FAR, -1, 0, least - 1, least, FAR):
                    self.assertEqual(least_strength(with_strength(row, other, strength), one, other), least)
                self.assertEqual(least_strength(row[:other + 1], one, other), least)
                for beast in ((FAR, 10 ** 9), (-FAR, 0)):
                    self.assertEqual(least_strength(row[:other + 1] + (beast, beast), one, other), least)
                self.assertEqual(least_strength(row[:other] + ((3, 77),), one, other), least)

    def test_by_sums(self):
        for row in all_rows():
            passing = set(passings(row))
            for one, other in pairs_of(row):
                staying = [who for who in range(one + 1, other) if (one, who) not in passing]
                want = row[one][0] + row[one][1] + sum(row[who][1] for who in staying) + 1
                self.assertEqual(least_strength(row, one, other), want)
                # So whoever passes one passes each of these on its way.
                for who in staying:
                    self.assertLessEqual(least_strength(row, who, other), want)

    def test_far_strengths(self):
        row = ((FAR, 10 ** 9),) * 24
        self.assertEqual(least_strength(row, 0, 23), FAR + 23 * 10 ** 9 + 1)
        row = ((-FAR, 10 ** 9),) * 24
        self.assertEqual(least_strength(row, 0, 23), -FAR + 23 * 10 ** 9 + 1)
        self.assertEqual(least_strength(row, 22, 23), -FAR + 10 ** 9 + 1)


class StoppedBy(unittest.TestCase):
    def test_by_hand(self):
        self.assertEqual([stopped_by(ROW, who) for who in range(4)], [None, None, 0, 1])
        self.assertEqual([stopped_by(STOPPED, who) for who in range(3)], [None, 0, 1])

    def test_by_its_place_in_row(self):
        # 9 goes ahead of 5, and stops 8, which stands right behind 5 in row.
        row = ((5, 0), (9, 0), (8, 0))
        self.assertEqual([stopped_by(row, who) for who in range(3)], [None, None, 1])

    def test_against_leading_all_ahead_first(self):
        for row in all_rows():
            for who in range(1, len(row)):
                then, order = last(row[:who])
                line, place = then + (row[who],), who
                while place in may_pass(line):
                    line, place = passed(line, place), place - 1
                want = order[place - 1] if place > 0 else None
                self.assertEqual(repr(stopped_by(row, who)), repr(want))

    def test_the_front(self):
        for row in all_rows():
            self.assertIs(stopped_by(row, 0), None)

    def test_passes_all(self):
        for many in (2, 7, 24):
            for who in range(many):
                self.assertIs(stopped_by(stair(many, 2), who), None)
        row = ((-FAR, 10 ** 9),) * 23 + ((FAR, 0),)
        self.assertIs(stopped_by(row, 23), None)
        self.assertEqual(stopped_by(row, 22), 21)

    def test_whoever_stands_behind(self):
        for row in drawn_rows():
            for who in range(len(row)):
                self.assertEqual(stopped_by(row[:who + 1], who), stopped_by(row, who))


if __name__ == "__main__":
    unittest.main()
