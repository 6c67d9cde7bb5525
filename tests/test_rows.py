import copy
import unittest

from hayherd.errors import MayNot, NotLet
from hayherd.rows import (
    fallen, gone, is_order, is_row, may_fall, may_pass, order_behind, passed,
)
from tests.helper import FAR, NO_THINGS, ODD_PLACES, all_rows, drawn_rows, nested

ROW = ((5, 1), (7, 2), (3, 0), (9, 4))


class IsRow(unittest.TestCase):
    def assert_row(self, thing, so):
        self.assertIs(is_row(thing), so, repr(thing)[:80])

    def test_rows(self):
        for thing in (((0, 0),), ((1, 2),), ((-1, 2),), ROW, ((4, 1),) * 24, ((4, 1),) * 1000):
            self.assert_row(thing, True)

    def test_every_row_of_the_helper(self):
        for row in all_rows():
            self.assert_row(row, True)

    def test_tolls(self):
        self.assert_row(((5, 0),), True)
        self.assert_row(((5, -1),), False)
        self.assert_row(((5, 1), (5, -1)), False)
        self.assert_row(((5, -FAR), (5, 1)), False)

    def test_bounds_are_not_looked_at(self):
        self.assert_row(((10 ** 50, 10 ** 40), (-(10 ** 50), 10 ** 10)), True)
        self.assert_row(((FAR + 1, 10 ** 9 + 1),), True)

    def test_lists_in_place_of_tuples(self):
        self.assert_row([(1, 2)], False)
        self.assert_row(([1, 2],), False)
        self.assert_row([[1, 2]], False)
        self.assert_row(((1, 2), [1, 2]), False)
        self.assert_row(((1, 2), [1, 2], (1, 2)), False)

    def test_true_and_false_are_no_numbers(self):
        for pair in ((True, 1), (1, True), (False, 1), (1, False), (True, False)):
            self.assert_row((pair,), False)
            self.assert_row(((1, 1), pair), False)
            self.assert_row((pair, (1, 1)), False)

    def test_parts_that_are_no_pairs(self):
        for part in ((), (1,), (1, 2, 3), (1, 2, 3, 4), 1, None, "", "12", True, ((1, 2), (1, 2))):
            self.assert_row((part,), False)
            self.assert_row(((1, 2), part), False)
            self.assert_row((part, (1, 2)), False)

    def test_parts_that_are_no_numbers(self):
        for part in (None, "1", "", (), (1,), [1], [], ((1, 2),)):
            self.assert_row(((part, 1),), False)
            self.assert_row(((1, part),), False)

    def test_the_pair_alone_is_none(self):
        self.assert_row((5, 1), False)

    def test_other_things(self):
        for thing in NO_THINGS:
            self.assert_row(thing, False)
        for depth in range(13):
            self.assert_row(nested(depth), False)

    def test_by_name(self):
        self.assertIs(is_row(thing=ROW), True)
        self.assertIs(is_row(thing=None), False)


class Passing(unittest.TestCase):
    def test_just_enough_and_one_too_little(self):
        # 5 and a toll of 3: who pays 3 and is above 5 then has 9 or more.
        for strength in range(4, 14):
            row = ((5, 3), (strength, 1))
            self.assertEqual(may_pass(row), [1] if strength >= 9 else [])

    def test_toll_of_the_passer_is_of_no_weight(self):
        for toll in (0, 1, 10 ** 9):
            self.assertEqual(may_pass(((5, 3), (9, toll))), [1])
            self.assertEqual(may_pass(((5, 3), (8, toll))), [])

    def test_equal_strengths(self):
        self.assertEqual(may_pass(((5, 0), (5, 0), (5, 0))), [])
        self.assertEqual(may_pass(((5, 2), (5, 0), (5, 7))), [])

    def test_tolls_of_0(self):
        self.assertEqual(may_pass(((5, 0), (6, 0), (7, 0), (7, 0), (6, 0), (8, 0))), [1, 2, 5])
        self.assertEqual(passed(((5, 0), (6, 0)), 1), ((6, 0), (5, 0)))

    def test_strengths_below_0(self):
        self.assertEqual(may_pass(((-5, 0), (-4, 1))), [1])
        self.assertEqual(may_pass(((-5, 1), (-4, 1))), [])
        self.assertEqual(passed(((-9, 4), (-4, 1)), 1), ((-8, 1), (-9, 4)))
        # Its strength goes below 0 by what it pays.
        self.assertEqual(passed(((-9, 6), (2, 1)), 1), ((-4, 1), (-9, 6)))

    def test_the_front_never(self):
        for row in all_rows():
            self.assertNotIn(0, may_pass(row))
            with self.assertRaises(MayNot) as caught:
                passed(row, 0)
            self.assertEqual(caught.exception.place, 0)

    def test_one_alone(self):
        self.assertEqual(may_pass(((5, 1),)), [])

    def test_an_ordinary_row(self):
        self.assertEqual(may_pass(ROW), [1, 3])
        self.assertEqual(passed(ROW, 1), ((6, 2), (5, 1), (3, 0), (9, 4)))
        self.assertEqual(passed(ROW, 3), ((5, 1), (7, 2), (9, 4), (3, 0)))

    def test_far_numbers(self):
        row = ((-FAR, 10 ** 9), (FAR, 10 ** 9))
        self.assertEqual(passed(row, 1), ((FAR - 10 ** 9, 10 ** 9), (-FAR, 10 ** 9)))

    def test_who_may_by_its_words(self):
        for row in all_rows():
            want = [
                place for place in range(1, len(row))
                if row[place][0] - row[place - 1][1] > row[place - 1][0]
            ]
            self.assertEqual(may_pass(row), want)

    def test_weaker_by_the_toll_all_else_stays(self):
        for row in all_rows():
            for place in may_pass(row):
                then = passed(row, place)
                want = list(row)
                want[place] = row[place - 1]
                want[place - 1] = (row[place][0] - row[place - 1][1], row[place][1])
                self.assertEqual(then, tuple(want))
                self.assertIs(is_row(then), True)

    def test_places_where_nobody_may(self):
        for place in ODD_PLACES + (0, 2, 4, 5):
            with self.assertRaises(MayNot) as caught:
                passed(ROW, place)
            self.assertEqual(caught.exception.place, place)

    def test_refused_just_where_not_told(self):
        for row in drawn_rows():
            for place in range(-len(row) - 1, len(row) + 2):
                if place not in may_pass(row):
                    with self.assertRaises(MayNot) as caught:
                        passed(row, place)
                    self.assertEqual(caught.exception.place, place)

    def test_a_passing_fallen_back(self):
        for row in all_rows():
            for place in may_pass(row):
                then = passed(row, place)
                self.assertIn(place - 1, may_fall(then))
                self.assertEqual(fallen(then, place - 1), row)

    def test_by_name(self):
        self.assertEqual(may_pass(row=ROW), [1, 3])
        self.assertEqual(passed(row=ROW, place=1), passed(ROW, 1))
        self.assertEqual(passed(place=3, row=ROW), passed(ROW, 3))


class Falling(unittest.TestCase):
    def test_alike_and_one_apart(self):
        for toll in (0, 1, 10 ** 9):
            self.assertEqual(may_fall(((6, 1), (5, toll))), [0])
            self.assertEqual(may_fall(((5, 1), (5, toll))), [])
            self.assertEqual(may_fall(((4, 1), (5, toll))), [])
            self.assertEqual(may_fall(((-4, 1), (-5, toll))), [0])

    def test_the_hindmost_never(self):
        for row in all_rows():
            hindmost = len(row) - 1
            self.assertNotIn(hindmost, may_fall(row))
            with self.assertRaises(MayNot) as caught:
                fallen(row, hindmost)
            self.assertEqual(caught.exception.place, hindmost)

    def test_one_alone(self):
        self.assertEqual(may_fall(((5, 1),)), [])

    def test_an_ordinary_row(self):
        self.assertEqual(may_fall(ROW), [1])
        self.assertEqual(fallen(ROW, 1), ((5, 1), (3, 0), (7, 2), (9, 4)))
        self.assertEqual(fallen(((8, 1), (7, 2), (3, 5)), 0), ((7, 2), (10, 1), (3, 5)))
        self.assertEqual(fallen(((8, 1), (7, 2), (3, 5)), 1), ((8, 1), (3, 5), (12, 2)))

    def test_far_numbers(self):
        row = ((FAR, 10 ** 9), (-FAR, 10 ** 9))
        self.assertEqual(fallen(row, 0), ((-FAR, 10 ** 9), (FAR + 10 ** 9, 10 ** 9)))

    def test_who_may_by_its_words(self):
        for row in all_rows():
            want = [place for place in range(len(row) - 1) if row[place][0] > row[place + 1][0]]
            self.assertEqual(may_fall(row), want)

    def test_stronger_by_the_toll_all_else_stays(self):
        for row in all_rows():
            for place in may_fall(row):
                then = fallen(row, place)
                want = list(row)
                want[place] = row[place + 1]
                want[place + 1] = (row[place][0] + row[place + 1][1], row[place][1])
                self.assertEqual(then, tuple(want))
                self.assertIs(is_row(then), True)

    def test_places_where_nobody_may(self):
        for place in ODD_PLACES + (0, 2, 3, 4):
            with self.assertRaises(MayNot) as caught:
                fallen(ROW, place)
            self.assertEqual(caught.exception.place, place)

    def test_refused_just_where_not_told(self):
        for row in drawn_rows():
            for place in range(-len(row) - 1, len(row) + 2):
                if place not in may_fall(row):
                    with self.assertRaises(MayNot) as caught:
                        fallen(row, place)
                    self.assertEqual(caught.exception.place, place)

    def test_a_falling_passed_again(self):
        for row in all_rows():
            for place in may_fall(row):
                then = fallen(row, place)
                self.assertIn(place + 1, may_pass(then))
                self.assertEqual(passed(then, place + 1), row)

    def test_by_name(self):
        self.assertEqual(may_fall(row=ROW), [1])
        self.assertEqual(fallen(row=ROW, place=1), fallen(ROW, 1))
        self.assertEqual(fallen(place=1, row=ROW), fallen(ROW, 1))


class Deeds(unittest.TestCase):
    def assert_not_let(self, row, deeds, number):
        for ask in (gone, order_behind):
            with self.assertRaises(NotLet) as caught:
                ask(row, deeds)
            self.assertEqual(caught.exception.number, number)

    def test_no_deeds(self):
        for row in (ROW, ((5, 1),)):
            for deeds in ([], ()):
                self.assertEqual(gone(row, deeds), row)
                self.assertEqual(order_behind(row, deeds), tuple(range(len(row))))

    def test_one_deed(self):
        self.assertEqual(gone(ROW, [("pass", 1)]), ((6, 2), (5, 1), (3, 0), (9, 4)))
        self.assertEqual(order_behind(ROW, [("pass", 1)]), (1, 0, 2, 3))
        self.assertEqual(gone(ROW, [("fall", 1)]), ((5, 1), (3, 0), (7, 2), (9, 4)))
        self.assertEqual(order_behind(ROW, [("fall", 1)]), (0, 2, 1, 3))

    def test_several_deeds_as_list_and_tuple(self):
        deeds = [("pass", 3), ("fall", 2), ("pass", 3), ("pass", 1), ("fall", 1)]
        # 9 passes 3, falls back, passes it again; 7 passes 5 for 1; 5 does not fall behind 9.
        self.assert_not_let(ROW, deeds, 4)
        for kind in (list, tuple):
            self.assertEqual(gone(ROW, kind(deeds[:4])), ((6, 2), (5, 1), (9, 4), (3, 0)))
            self.assertEqual(order_behind(ROW, kind(deeds[:4])), (1, 0, 3, 2))

    def test_one_going_through_the_whole_row(self):
        row = ((1, 1), (2, 1), (3, 1), (20, 5))
        deeds = [("pass", 3), ("pass", 2), ("pass", 1)]
        self.assertEqual(gone(row, deeds), ((17, 5), (1, 1), (2, 1), (3, 1)))
        self.assertEqual(order_behind(row, deeds), (3, 0, 1, 2))
        back = deeds + [("fall", 0), ("fall", 1), ("fall", 2)]
        self.assertEqual(gone(row, back), row)
        self.assertEqual(order_behind(row, back), (0, 1, 2, 3))

    def test_300_deeds(self):
        row = ((5, 3), (9, 1), (0, 0))
        deeds = [("pass", 1), ("fall", 0)] * 150
        for kind in (list, tuple):
            self.assertEqual(gone(row, kind(deeds)), row)
            self.assertEqual(order_behind(row, kind(deeds)), (0, 1, 2))
            self.assertEqual(gone(row, kind(deeds[:299])), ((6, 1), (5, 3), (0, 0)))
            self.assertEqual(order_behind(row, kind(deeds[:299])), (1, 0, 2))
        self.assert_not_let(row, deeds[:299] + [("pass", 1)], 299)
        self.assert_not_let(row, [("fall", 0)] + deeds[1:], 0)
        self.assert_not_let(row, deeds[:150] + [("fall", 1), ("pass", 1)] + deeds[152:], 151)

    def test_first_that_cannot_be_done(self):
        self.assert_not_let(ROW, [("pass", 0)], 0)
        self.assert_not_let(ROW, [("pass", 2)], 0)
        self.assert_not_let(ROW, [("fall", 0)], 0)
        self.assert_not_let(ROW, [("fall", 3)], 0)
        self.assert_not_let(ROW, [("pass", 1), ("pass", 1)], 1)
        self.assert_not_let(ROW, (("pass", 1), ("pass", 3), ("fall", 3)), 2)

    def test_whatever_comes_behind_it(self):
        good = [("pass", 1), ("fall", 0)]
        for behind in ([("pass", 1)], [("fall", 9)], [("pass", -1), ("pass", 99)], good * 100):
            self.assert_not_let(ROW, good + [("pass", 0)] + behind, 2)

    def test_places_that_there_are_not(self):
        for place in ODD_PLACES:
            for word in ("pass", "fall"):
                self.assert_not_let(ROW, [(word, place)], 0)
                self.assert_not_let(ROW, [("pass", 1), (word, place), ("fall", 0)], 1)

    def test_of_one_beast(self):
        for deed in (("pass", 0), ("fall", 0), ("pass", 1), ("fall", -1)):
            self.assert_not_let(((5, 1),), [deed], 0)

    def test_deed_by_deed_as_passed_and_fallen_tell(self):
        for row in drawn_rows():
            now, order, deeds = row, list(range(len(row))), []
            for step in range(40):
                moves = [("pass", place) for place in may_pass(now)]
                moves += [("fall", place) for place in may_fall(now)]
                if not moves:
                    break
                word, place = moves[step * 7 % len(moves)]
                ahead = place - 1 if word == "pass" else place
                now = passed(now, place) if word == "pass" else fallen(now, place)
                order[ahead], order[ahead + 1] = order[ahead + 1], order[ahead]
                deeds.append((word, place))
            self.assertEqual(gone(row, deeds), now)
            self.assertEqual(order_behind(row, deeds), tuple(order))
            self.assertIs(is_order(row, order_behind(row, deeds)), True)

    def test_tolls_stand_as_the_order_tells(self):
        row = ((1, 10), (30, 20), (60, 30), (200, 40))
        deeds = [("pass", 3), ("pass", 1), ("pass", 2)]
        tolls = [toll for strength, toll in gone(row, deeds)]
        self.assertEqual(tolls, [row[who][1] for who in order_behind(row, deeds)])

    def test_by_name(self):
        deeds = [("pass", 1)]
        self.assertEqual(gone(row=ROW, deeds=deeds), gone(ROW, deeds))
        self.assertEqual(gone(deeds=deeds, row=ROW), gone(ROW, deeds))
        self.assertEqual(order_behind(row=ROW, deeds=deeds), (1, 0, 2, 3))
        self.assertEqual(order_behind(deeds=deeds, row=ROW), (1, 0, 2, 3))


class IsOrder(unittest.TestCase):
    def assert_order(self, row, thing, so):
        self.assertIs(is_order(row, thing), so, repr(thing)[:80])

    def test_each_place_once(self):
        for thing in ((0, 1, 2, 3), (3, 2, 1, 0), (2, 0, 3, 1)):
            self.assert_order(ROW, thing, True)
        self.assert_order(((4, 1),) * 24, tuple(range(24)), True)
        self.assert_order(((4, 1),) * 24, tuple(reversed(range(24))), True)

    def test_it_need_not_be_come_to(self):
        self.assert_order(((5, 1), (5, 1)), (1, 0), True)

    def test_twice_left_out_too_many(self):
        for thing in (
            (0, 1, 2, 2), (0, 0, 1, 2, 3), (0, 1, 2), (0, 1, 2, 3, 4), (1, 2, 3, 4), (0, 1, 2, 4),
            (0, 1, 2, -1), (-4, -3, -2, -1), (0,), (0, 1, 2, 3, 3), (0, 1, 2, 10 ** 30),
        ):
            self.assert_order(ROW, thing, False)

    def test_true_and_false_are_no_numbers(self):
        for thing in ((0, True, 2, 3), (False, 1, 2, 3), (False, True, 2, 3), (3, 2, True, False)):
            self.assert_order(ROW, thing, False)
        self.assert_order(((5, 1), (5, 1)), (False, True), False)

    def test_a_list(self):
        self.assert_order(ROW, [0, 1, 2, 3], False)
        self.assert_order(((5, 1),), [0], False)

    def test_parts_of_other_kinds(self):
        for part in (None, "3", "", (3,), [3], (), []):
            self.assert_order(ROW, (0, 1, 2, part), False)
            self.assert_order(ROW, (part, 1, 2, 3), False)
        self.assert_order(ROW, ("0", "1", "2", "3"), False)
        self.assert_order(ROW, ((0, 1, 2, 3),), False)

    def test_things_of_any_kind(self):
        for row in (ROW, ((5, 1),), ((5, 1),) * 24):
            for thing in NO_THINGS:
                self.assert_order(row, thing, False)
            for depth in range(13):
                self.assert_order(row, nested(depth), False)

    def test_of_one_beast(self):
        self.assert_order(((5, 1),), (0,), True)
        for thing in ((), (1,), (-1,), (0, 0), (0, 1), (False,), [0], 0, ((0,),)):
            self.assert_order(((5, 1),), thing, False)

    def test_by_name(self):
        self.assertIs(is_order(row=ROW, thing=(0, 1, 2, 3)), True)
        self.assertIs(is_order(thing=None, row=ROW), False)


class AskedAgain(unittest.TestCase):
    def test_a_told_list_is_the_askers_own(self):
        for ask in (may_pass, may_fall):
            told = ask(ROW)
            want = list(told)
            told.append(99)
            told[0] = -1
            self.assertEqual(ask(ROW), want)
            self.assertIsNot(ask(ROW), ask(ROW))
            self.assertIs(type(ask(((5, 1),))), list)
            self.assertIsNot(ask(((5, 1),)), ask(((5, 1),)))

    def test_asked_again_the_same(self):
        deeds = [("pass", 1), ("pass", 3)]
        asks = (
            (is_row, (ROW,)), (may_pass, (ROW,)), (may_fall, (ROW,)), (passed, (ROW, 1)), (fallen, (ROW, 1)),
            (gone, (ROW, deeds)), (order_behind, (ROW, deeds)), (is_order, (ROW, (0, 1, 2, 3))),
        )
        once = [ask(*handed) for ask, handed in asks]
        self.assertEqual([ask(*handed) for ask, handed in asks], once)
        self.assertEqual([ask(*handed) for ask, handed in reversed(asks)], once[::-1])

    def test_what_is_handed_in_stays(self):
        row, deeds = tuple(ROW), [("pass", 1), ("pass", 3), ("fall", 0)]
        things = [[1, [2, 3], (4, [5])], [(1, 2)], ([1, 2],), [0, 1, 2, 3]]
        before = copy.deepcopy((row, deeds, things))
        may_pass(row), may_fall(row), passed(row, 1), fallen(row, 1), gone(row, deeds), order_behind(row, deeds)
        for thing in things:
            is_row(thing), is_order(row, thing)
        self.assertEqual((row, deeds, things), before)

    def test_what_is_handed_in_is_not_kept(self):
        deeds = [("pass", 1)]
        then, order = gone(ROW, deeds), order_behind(ROW, deeds)
        deeds.append(("pass", 3))
        self.assertEqual(then, ((6, 2), (5, 1), (3, 0), (9, 4)))
        self.assertEqual(order, (1, 0, 2, 3))
        self.assertEqual(order_behind(ROW, deeds), (1, 0, 3, 2))

    def test_a_refusal_changes_nothing(self):
        deeds = [("pass", 1), ("pass", 1), ("pass", 3)]
        for number in (1, 1):
            with self.assertRaises(NotLet) as caught:
                gone(ROW, deeds)
            self.assertEqual(caught.exception.number, number)
        self.assertEqual(deeds, [("pass", 1), ("pass", 1), ("pass", 3)])
        self.assertEqual(ROW, ((5, 1), (7, 2), (3, 0), (9, 4)))
        self.assertEqual(gone(ROW, deeds[:1]), ((6, 2), (5, 1), (3, 0), (9, 4)))

    def test_what_is_told_is_made_of_tuples(self):
        for told in (passed(ROW, 1), fallen(ROW, 1), gone(ROW, [("pass", 1)]), gone(ROW, [])):
            self.assertIs(is_row(told), True)
        self.assertIs(is_order(ROW, order_behind(ROW, [("pass", 1)])), True)
        self.assertIs(is_order(ROW, order_behind(ROW, [])), True)


if __name__ == "__main__":
    unittest.main()
