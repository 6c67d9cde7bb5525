import itertools
import random
import unittest

from hayherd.ends import fallings, first, last, passings
from hayherd.errors import NotKept, NoWay
from hayherd.kept import comes_to, kept_pairs
from hayherd.rows import gone, may_pass, order_behind, passed
from hayherd.ways import how_far, nearer, shows_way, way_at, way_to, ways_many
from tests.helper import FAR, NO_THINGS, drawn_rows, few_rows, reached, small_rows, stair, steps_from

ROW = ((5, 1), (7, 2), (3, 0), (9, 4))
ROWS = list(few_rows())
WORDS = ("pass", "fall")


def shortest_ways(row):
    """For each ORDER that row comes to, all lists of the fewest DEEDs, by a search from row on."""
    own = tuple(range(len(row)))
    known, level = {}, {own: (row, [[]])}
    while level:
        known.update({order: ways for order, (now, ways) in level.items()})
        behind = {}
        for order, (now, ways) in level.items():
            for deed, then, stand in steps_from(now, order):
                if stand not in known:
                    behind.setdefault(stand, (then, []))[1].extend(way + [deed] for way in ways)
        level = behind
    return known


def ways_to_the_last(row):
    """All lists of places at which one behind the other passes till nobody may."""
    places = may_pass(row)
    if not places:
        return [[]]
    return [[place] + way for place in places for way in ways_to_the_last(passed(row, place))]


SHORTEST = [(row, shortest_ways(row)) for row in ROWS]


class Refusals(unittest.TestCase):
    def test_orders_that_it_does_not_come_to(self):
        for row, ways in SHORTEST:
            pairs = kept_pairs(row)
            for order in itertools.permutations(range(len(row))):
                if order in ways:
                    continue
                want = [pair for pair in pairs if order.index(pair[1]) < order.index(pair[0])][0]
                for ask in (how_far, nearer, way_to):
                    with self.assertRaises(NotKept) as caught:
                        ask(row, order)
                    self.assertEqual(repr(caught.exception.pair), repr(want))

    def test_of_twenty_four(self):
        for ask in (how_far, nearer, way_to):
            with self.assertRaises(NotKept) as caught:
                ask(((5, 1),) * 24, tuple(range(22)) + (23, 22))
            self.assertEqual(caught.exception.pair, (22, 23))


class HowFar(unittest.TestCase):
    def test_by_hand(self):
        self.assertEqual(how_far(ROW, (0, 1, 2, 3)), 0)
        self.assertEqual(how_far(ROW, (1, 0, 2, 3)), 1)
        self.assertEqual(how_far(ROW, (2, 0, 1, 3)), 2)
        self.assertEqual(how_far(ROW, (2, 1, 0, 3)), 3)

    def test_against_a_search(self):
        for row, ways in SHORTEST:
            self.assertEqual(set(ways), set(reached(row)))
            for order, lists in ways.items():
                self.assertEqual(repr(how_far(row, order)), repr(len(lists[0])))

    def test_both_ends(self):
        for row in drawn_rows():
            self.assertEqual(how_far(row, last(row)[1]), len(passings(row)))
            self.assertEqual(how_far(row, first(row)[1]), len(fallings(row)))
            self.assertEqual(how_far(row, tuple(range(len(row)))), 0)

    def test_of_twenty_four(self):
        self.assertEqual(how_far(stair(24), tuple(reversed(range(24)))), 276)


class Nearer(unittest.TestCase):
    def test_by_hand(self):
        self.assertEqual(nearer(ROW, (0, 1, 2, 3)), [])
        self.assertEqual(nearer(ROW, (1, 0, 3, 2)), [("pass", 1), ("pass", 3)])
        self.assertEqual(nearer(ROW, (2, 1, 0, 3)), [("fall", 1), ("pass", 1)])
        self.assertEqual(nearer(ROW, (2, 0, 1, 3)), [("fall", 1)])

    def test_falls_stand_ahead_of_passes(self):
        row = ((0, 0), (9, 0), (5, 0), (4, 0), (6, 0))
        self.assertEqual(nearer(row, (4, 3, 2, 1, 0)), [("fall", 1), ("fall", 2), ("pass", 1), ("pass", 4)])

    def test_against_a_search(self):
        for row, ways in SHORTEST:
            for order, lists in ways.items():
                want = sorted({way[0] for way in lists if way})
                self.assertEqual(repr(nearer(row, order)), repr(want))

    def test_behind_each_fewer_lead_there(self):
        for row in drawn_rows():
            own = tuple(range(len(row)))
            for order in (last(row)[1], first(row)[1], own):
                goals = nearer(row, order)
                for deed, then, stand in steps_from(row, own):
                    far = how_far(then, tuple(stand.index(who) for who in order))
                    self.assertEqual(far < how_far(row, order), deed in goals)
                    self.assertEqual(abs(far - how_far(row, order)), 1)


class WayTo(unittest.TestCase):
    def test_by_hand(self):
        self.assertEqual(way_to(ROW, (0, 1, 2, 3)), [])
        self.assertEqual(way_to(ROW, (1, 0, 3, 2)), [("pass", 1), ("pass", 3)])
        # Falls come ahead of passes as texts rise: 7 falls behind 3, then 5 does, then 7 passes 5.
        self.assertEqual(way_to(ROW, (2, 1, 0, 3)), [("fall", 1), ("fall", 0), ("pass", 2)])
        self.assertEqual(way_to(((5, 1),), (0,)), [])

    def test_the_first_of_the_shortest(self):
        for row, ways in SHORTEST:
            for order, lists in ways.items():
                self.assertEqual(repr(way_to(row, order)), repr(min(lists)))

    def test_each_deed_can_be_done_and_leads_there(self):
        for row in drawn_rows():
            for then, order in (last(row), first(row)):
                way = way_to(row, order)
                self.assertEqual(len(way), how_far(row, order))
                self.assertEqual(gone(row, way), then)
                self.assertEqual(order_behind(row, way), order)

    def test_from_one_end_to_the_other(self):
        for row in drawn_rows():
            start, order = first(row)
            goal = tuple(order.index(who) for who in last(row)[1])
            way = way_to(start, goal)
            self.assertEqual(gone(start, way), last(row)[0])
            self.assertTrue(all(word == "pass" for word, place in way))
            self.assertEqual(len(way), len(passings(row)) + len(fallings(row)))

    def test_step_by_step_it_is_the_first_of_nearer(self):
        for row in drawn_rows():
            order = last(row)[1] if len(passings(row)) else first(row)[1]
            now, goal = row, order
            for deed in way_to(row, order):
                self.assertEqual(deed, nearer(now, goal)[0])
                step = order_behind(now, [deed])
                now, goal = gone(now, [deed]), tuple(step.index(who) for who in goal)
            self.assertEqual(nearer(now, goal), [])

    def test_of_twenty_four(self):
        back = tuple(reversed(range(24)))
        way = way_to(stair(24, 2), back)
        self.assertEqual(len(way), 276)
        self.assertEqual(way[:6], [("pass", place) for place in (1, 2, 1, 3, 2, 1)])
        self.assertEqual(order_behind(stair(24, 2), way), back)


class ShowsWay(unittest.TestCase):
    def assert_shows(self, row, order, thing, so):
        self.assertIs(shows_way(row, order, thing), so, repr(thing)[:80])

    def test_each_of_the_shortest(self):
        for row, ways in SHORTEST[::3]:
            for order, lists in ways.items():
                for way in lists[:20] + lists[-20:]:
                    self.assert_shows(row, order, way, True)

    def test_all_lists_of_small_rows(self):
        deeds = [(word, place) for word in WORDS for place in (-1, 0, 1, 2, 3)]
        things = [list(thing) for many in range(4) for thing in itertools.product(deeds, repeat=many)]
        rows = [row for row in small_rows() if len(row) == 3][::400]
        for row in rows + [stair(3), stair(3)[::-1], ((5, 0), (5, 0), (6, 0)), ((1, 0), (9, 0), (5, 0))]:
            ways = shortest_ways(row)
            for order in itertools.permutations(range(3)):
                lists = ways.get(order, [])
                for thing in things:
                    self.assert_shows(row, order, thing, thing in lists)

    def test_longer_and_shorter(self):
        for row, ways in SHORTEST:
            for order, lists in list(ways.items())[::5]:
                way = min(lists)
                then = gone(row, way)
                for deed, now, stand in steps_from(then, tuple(range(len(row)))):
                    word, place = deed
                    back = ("fall", place - 1) if word == "pass" else ("pass", place + 1)
                    # It leads there, but two deeds fewer do so as well.
                    self.assertEqual(gone(row, way + [deed, back]), then)
                    self.assert_shows(row, order, way + [deed, back], False)
                    self.assert_shows(row, order, way + [deed], False)
                if way:
                    self.assert_shows(row, order, way[:-1], False)
                    self.assert_shows(row, order, way[1:], False)

    def test_a_deed_that_cannot_be_done(self):
        self.assert_shows(ROW, (1, 0, 2, 3), [("pass", 1)], True)
        for deed in (("fall", 0), ("pass", 0), ("pass", -3), ("pass", 4), ("fall", 3), ("pass", 10 ** 30), ("fall", 1)):
            self.assert_shows(ROW, (1, 0, 2, 3), [deed], False)
            self.assert_shows(ROW, (1, 0, 3, 2), [("pass", 1), deed], False)
            self.assert_shows(ROW, (1, 0, 3, 2), [deed, ("pass", 1)], False)

    def test_parts_that_are_no_deeds(self):
        order = (1, 0, 2, 3)
        for part in (
            ["pass", 1], ("pass", True), ("pass",), ("pass", 1, 1), (1, "pass"), ("Pass", 1), ("pas", 1), ("pass", "1"),
            ("pass", None), ("pass", (1,)), (None, 1), (True, 1), ([], 1), ((), 1), ("", 1), (("pass",), 1), "pass",
            1, None, True, (), [], "", (("pass", 1),), [("pass", 1)], ("overtake", 1), ("pass ", 1),
        ):
            self.assert_shows(ROW, order, [part], False)
        self.assert_shows(ROW, order, [("pass", 1)], True)
        falling = ((9, 0), (5, 0))
        self.assert_shows(falling, (1, 0), [("fall", 0)], True)
        self.assert_shows(falling, (1, 0), [("fall", False)], False)

    def test_tuples_for_lists(self):
        self.assert_shows(ROW, (0, 1, 2, 3), [], True)
        self.assert_shows(ROW, (0, 1, 2, 3), (), False)
        self.assert_shows(ROW, (1, 0, 3, 2), [("pass", 3), ("pass", 1)], True)
        self.assert_shows(ROW, (1, 0, 3, 2), (("pass", 3), ("pass", 1)), False)
        self.assert_shows(ROW, (1, 0, 3, 2), [("pass", 3), ["pass", 1]], False)

    def test_things_of_any_kind(self):
        for row in (ROW, ((5, 1),), stair(24)):
            own = tuple(range(len(row)))
            for order in (own, last(row)[1]):
                for thing in NO_THINGS:
                    self.assert_shows(row, order, thing, order == own and thing == [])
                self.assert_shows(row, order, [("pass", 1)] * 1300, False)

    def test_of_an_order_that_it_does_not_come_to(self):
        row = ((5, 1),) * 3
        for order in itertools.permutations(range(3)):
            self.assertIs(comes_to(row, order), order == (0, 1, 2))
            for thing in ([], [("pass", 1)], [("fall", 0)], [("pass", 2), ("pass", 1)], [("fall", 0), ("pass", 1)]):
                self.assert_shows(row, order, thing, order == (0, 1, 2) and thing == [])
        # The first deed can be done, but leads to another ORDER.
        row = ((5, 0), (6, 0), (6, 0))
        self.assert_shows(row, (1, 0, 2), [("pass", 1)], True)
        self.assert_shows(row, (0, 2, 1), [("pass", 1)], False)
        for thing in NO_THINGS:
            self.assert_shows(row, (0, 2, 1), thing, False)

    def test_of_twenty_four(self):
        for row in (stair(24), stair(24, 7)):
            order = last(row)[1]
            way = way_to(row, order)
            self.assert_shows(row, order, way, True)
            self.assert_shows(row, order, way[:-1], False)
            self.assert_shows(row, order, way[:-1] + [("pass", 0)], False)
            # From the back on it's another one of as many deeds.
            self.assert_shows(row, order, [(word, 24 - place) for word, place in way], True)


class WaysToTheLast(unittest.TestCase):
    def assert_no_way(self, row, number):
        with self.assertRaises(NoWay) as caught:
            way_at(row, number)
        self.assertEqual(caught.exception.number, number)

    def test_by_hand(self):
        self.assertEqual(ways_many(stair(3)), 2)
        self.assertEqual([way_at(stair(3), number) for number in (0, 1)], [[1, 2, 1], [2, 1, 2]])
        # 7 passes 5, 9 passes 3, in any order; then 9 passes 5.
        self.assertEqual(ways_many(ROW), 2)
        self.assertEqual([way_at(ROW, number) for number in (0, 1)], [[1, 3, 2], [3, 1, 2]])

    def test_against_all_lists(self):
        for row in ROWS + [stair(5, 4)]:
            ways = sorted(ways_to_the_last(row))
            self.assertEqual(repr(ways_many(row)), repr(len(ways)))
            self.assertEqual(repr([way_at(row, number) for number in range(len(ways))]), repr(ways))
            self.assertEqual({len(way) for way in ways}, {len(passings(row))})

    def test_of_a_last_row(self):
        for row in ROWS:
            then = last(row)[0]
            self.assertEqual(ways_many(then), 1)
            self.assertEqual(way_at(then, 0), [])
            self.assert_no_way(then, 1)
        self.assertEqual(ways_many(((5, 1),)), 1)
        self.assertEqual(way_at(((5, 1),), 0), [])
        self.assert_no_way(((5, 1),), -1)

    def test_any_other_number(self):
        for row in ROWS[::9] + [stair(7)]:
            many = ways_many(row)
            for number in (many, many + 1, -1, -2, -many, -many - 1, FAR, -FAR, 10 ** 30, -(10 ** 30)):
                if not 0 <= number < many:
                    self.assert_no_way(row, number)

    def test_seven_counted(self):
        self.assertEqual([ways_many(stair(many)) for many in range(1, 8)], [1, 1, 2, 16, 768, 292864, 1100742656])
        self.assertEqual(ways_many(stair(7, 9)), 1100742656)
        # One goes through six: one way.
        self.assertEqual(ways_many(((5, 0),) * 6 + ((9, 0),)), 1)
        # Three go through four, which stay among themselves, as do the three.
        self.assertEqual(ways_many(((5, 0),) * 4 + ((9, 0),) * 3), 462)

    def test_seven_by_number(self):
        for row in (stair(7), stair(7, 2), ((5, 0),) * 4 + ((9, 0),) * 3):
            many, before = ways_many(row), []
            for number in sorted({many * part // 9 for part in range(9)} | {1, many - 2, many - 1}):
                way = way_at(row, number)
                self.assertLess(before, way)
                before = way
                self.assertEqual(gone(row, [("pass", place) for place in way]), last(row)[0])
                # As many lists come ahead of it as begin like it and then pass further ahead.
                now, ahead = row, 0
                for place in way:
                    ahead += sum(ways_many(passed(now, other)) for other in may_pass(now) if other < place)
                    now = passed(now, place)
                self.assertEqual(ahead, number)

    def test_drawn_rows(self):
        draw = random.Random(77)
        for step in range(20):
            row = tuple((draw.randint(0, 30), draw.randint(0, 2)) for beast in range(7))
            self.assertEqual(ways_many(row), sum(ways_many(passed(row, place)) for place in may_pass(row)) or 1)
            number = draw.randrange(ways_many(row))
            way = way_at(row, number)
            self.assertEqual(gone(row, [("pass", place) for place in way]), last(row)[0])
            self.assertIs(shows_way(row, last(row)[1], [("pass", place) for place in way]), True)

    def test_its_first_is_way_to_the_last(self):
        for row in ROWS:
            self.assertEqual([("pass", place) for place in way_at(row, 0)], way_to(row, last(row)[1]))


if __name__ == "__main__":
    unittest.main()
