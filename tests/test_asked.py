"""What holds of all that is asked: names of arguments, kinds of what is told, and that asking changes nothing."""

import copy
import inspect
import unittest

from hayherd.desk import answers
from hayherd.errors import BadRow, BadText, NotKept, NoOrder, NoWay
from hayherd.fed import asking, fed, least_feed, unlike
from hayherd.hay import hay, hay_between
from hayherd.joined import across, joined, last_of, piece
from hayherd.kept import comes_to, kept_pairs, number_of, order_at, orders_many, span, stands
from hayherd.lots import (
    herd_first, herd_last, herd_of, herd_passed, herd_passings, herd_places, is_herd, row_of,
)
from hayherd.never import ever, least_strength, never, shows_never, stopped_by
from hayherd.texts import row_in, row_text
from hayherd.turned import turned, weighed
from hayherd.ways import how_far, nearer, shows_way, way_at, way_to, ways_many

ROW = ((5, 1), (7, 2), (3, 0), (9, 4))
ALONE = ((5, 1),)
ALIKE = ((5, 1),) * 5
HERD = ((4, 2, 5), (9, 1, 1))
TEXT = "fold 5:1 7:2\novertake 1\nrow"

# what is asked, what it's handed by name, and what is told
ASKED = (
    (turned, {"row": ROW}, ((-5, 1), (-6, 2), (0, 0), (-6, 4))),
    (weighed, {"row": ROW}, [5, 6, 0, 6]),
    (never, {"row": ROW}, [[2], [2, 3], [], []]),
    (never, {"row": ALONE}, [[]]),
    (never, {"row": ALIKE}, [[1, 2, 3, 4], [2, 3, 4], [3, 4], [4], []]),
    (shows_never, {"row": ROW, "thing": [[2], [2, 3], [], []]}, True),
    (shows_never, {"row": ROW, "thing": [[2], [2, [3]], [], []]}, False),
    (ever, {"row": ROW, "one": 0, "other": 3}, True),
    (ever, {"row": ROW, "one": 1, "other": 3}, False),
    (least_strength, {"row": ROW, "one": 1, "other": 3}, 10),
    (stopped_by, {"row": ROW, "who": 3}, 1),
    (stopped_by, {"row": ROW, "who": 1}, None),
    (kept_pairs, {"row": ROW}, [(1, 3)]),
    (kept_pairs, {"row": ALONE}, []),
    (comes_to, {"row": ROW, "order": (3, 2, 1, 0)}, False),
    (comes_to, {"row": ROW, "order": (2, 1, 0, 3)}, True),
    (stands, {"row": ROW, "order": (1, 0, 3, 2)}, ((6, 2), (5, 1), (9, 4), (3, 0))),
    (orders_many, {"row": ROW}, 12),
    (order_at, {"row": ROW, "number": 11}, (2, 1, 3, 0)),
    (number_of, {"row": ROW, "order": (2, 1, 3, 0)}, 11),
    (span, {"row": ROW, "who": 1}, (0, 2)),
    (how_far, {"row": ROW, "order": (2, 1, 0, 3)}, 3),
    (nearer, {"row": ROW, "order": (2, 1, 0, 3)}, [("fall", 1), ("pass", 1)]),
    (nearer, {"row": ROW, "order": (0, 1, 2, 3)}, []),
    (way_to, {"row": ROW, "order": (2, 1, 0, 3)}, [("fall", 1), ("fall", 0), ("pass", 2)]),
    (way_to, {"row": ALONE, "order": (0,)}, []),
    (shows_way, {"row": ROW, "order": (1, 0, 3, 2), "thing": [("pass", 3), ("pass", 1)]}, True),
    (shows_way, {"row": ROW, "order": (1, 0, 3, 2), "thing": [["pass", 3], ("pass", [1])]}, False),
    (ways_many, {"row": ROW}, 2),
    (way_at, {"row": ROW, "number": 1}, [3, 1, 2]),
    (way_at, {"row": ALONE, "number": 0}, []),
    (fed, {"row": ROW, "who": 1, "by": -3}, ((5, 1), (4, 2), (3, 0), (9, 4))),
    (asking, {"row": ROW, "who": 3, "toll": 0}, ((5, 1), (7, 2), (3, 0), (9, 0))),
    (unlike, {"row": ROW, "other": ROW}, ([], [])),
    (unlike, {"row": ROW, "other": ALIKE[:4]}, ([], [(0, 1), (0, 3), (2, 3)])),
    (least_feed, {"row": ROW, "who": 2, "place": 1}, 6),
    (least_feed, {"row": ROW, "who": 2, "place": 3}, 0),
    (hay, {"row": ROW}, [(2, 0), (0, 1), (0, 0), (0, 1)]),
    (hay, {"row": ALONE}, [(0, 0)]),
    (hay_between, {"row": ROW, "order": (2, 1, 0, 3)}, [(1, 0), (0, 1), (0, 0), (0, 0)]),
    (hay_between, {"row": ALONE, "order": (0,)}, [(0, 0)]),
    (joined, {"one": ROW[:1], "other": ROW[1:]}, ROW),
    (across, {"one": ROW[:2], "other": ROW[2:]}, [(0, 1)]),
    (across, {"one": ALONE, "other": ALONE}, []),
    (piece, {"row": ROW, "begin": 1, "end": 3}, ((7, 2), (3, 0))),
    (last_of, {"rows": [ROW[:2], ROW[2:]]}, ((6, 2), (8, 4), (5, 1), (3, 0))),
    (last_of, {"rows": (ALONE,)}, ALONE),
    (is_herd, {"thing": HERD}, True),
    (is_herd, {"thing": [list(HERD), [[]]]}, False),
    (herd_of, {"row": ALIKE}, ((5, 1, 5),)),
    (row_of, {"herd": HERD}, ((4, 2),) * 5 + ((9, 1),)),
    (herd_last, {"herd": HERD}, ((4, 2, 3), (5, 1, 1), (4, 2, 2))),
    (herd_first, {"herd": HERD[::-1]}, ((4, 2, 5), (19, 1, 1))),
    (herd_passings, {"herd": HERD}, 2),
    (herd_passed, {"herd": HERD}, [0, 2]),
    (herd_places, {"herd": HERD}, [(0, 5), (3, 3)]),
    (row_text, {"row": ROW}, "5:1 7:2 3:0 9:4"),
    (row_in, {"text": "5:1 7:2 3:0 9:4"}, ROW),
    (answers, {"text": TEXT}, ["0", "6:2 5:1"]),
    (answers, {"text": "fold"}, []),
)


def lists_in(told):
    """A told list, and all lists in it."""
    if not isinstance(told, (list, tuple)):
        return []
    inner = [found for part in told for found in lists_in(part)]
    return inner + [told] if isinstance(told, list) else inner


class Asked(unittest.TestCase):
    # Written out: 1 is True to Python, and a list that is none of the asker's may be equal.
    def assert_told(self, told, want):
        self.assertEqual(repr(told), repr(want))

    def test_by_place(self):
        for ask, handed, want in ASKED:
            self.assert_told(ask(*handed.values()), want)

    def test_by_name(self):
        for ask, handed, want in ASKED:
            self.assertEqual(list(inspect.signature(ask).parameters), list(handed))
            self.assert_told(ask(**handed), want)
            self.assert_told(ask(**dict(reversed(handed.items()))), want)

    def test_some_by_place_and_some_by_name(self):
        for ask, handed, want in ASKED:
            foremost, *names = handed
            self.assert_told(ask(handed[foremost], **{name: handed[name] for name in names}), want)

    def test_asked_again_in_any_order(self):
        for step in range(3):
            for ask, handed, want in ASKED[::-1] if step == 1 else ASKED:
                self.assert_told(ask(**handed), want)

    def test_a_told_list_that_is_changed(self):
        for ask, handed, want in ASKED:
            for found in lists_in(ask(**handed)):
                found.append(99)
                found.reverse()
            for found in lists_in(ask(**handed)):
                found.clear()
            self.assert_told(ask(**handed), want)
        self.test_by_place()

    def test_no_two_told_lists_are_the_same(self):
        kept = [ask(**handed) for step in range(2) for ask, handed, want in ASKED]
        found = lists_in(kept)
        self.assertEqual(len({id(part) for part in found}), len(found))

    def test_what_is_told_is_not_what_was_handed_in(self):
        for ask, handed, want in ASKED:
            before = {id(part) for part in lists_in(list(handed.values()))}
            self.assertFalse(before & {id(part) for part in lists_in(ask(**handed))})

    def test_what_is_handed_in_stays(self):
        for ask, handed, want in ASKED:
            before = copy.deepcopy(handed)
            ask(**handed)
            self.assert_told(handed, before)

    def test_a_thing_that_is_changed_behind(self):
        table = [[2], [2, 3], [], []]
        self.assertIs(shows_never(ROW, table), True)
        table[2].append(3)
        self.assertIs(shows_never(ROW, table), False)
        table[2].pop()
        self.assertIs(shows_never(ROW, table), True)
        way = [("pass", 3), ("pass", 1)]
        self.assertIs(shows_way(ROW, (1, 0, 3, 2), way), True)
        way.append(("fall", 0))
        self.assertIs(shows_way(ROW, (1, 0, 3, 2), way), False)
        rows = [ALONE]
        told = last_of(rows)
        rows.append(((9, 0),))
        self.assertEqual(told, ALONE)
        self.assertEqual(last_of(rows), ((8, 0), (5, 1)))

    def test_a_refusal_changes_nothing(self):
        for ask, second, refusal, want in (
            (stands, (3, 2, 1, 0), NotKept, (1, 3)), (number_of, (3, 2, 1, 0), NotKept, (1, 3)),
            (how_far, (3, 2, 1, 0), NotKept, (1, 3)), (nearer, (3, 2, 1, 0), NotKept, (1, 3)),
            (way_to, (3, 2, 1, 0), NotKept, (1, 3)), (hay_between, (3, 2, 1, 0), NotKept, (1, 3)), (order_at, 12, NoOrder, 12), (way_at, 2, NoWay, 2),
        ):
            for step in range(2):
                with self.assertRaises(refusal) as caught:
                    ask(ROW, second)
                self.assert_told(list(vars(caught.exception).values()), [want])
        for ask, handed, refusal, want in (
            (row_in, "5:1 x", BadText, 1), (row_in, "", BadText, 0), (answers, "fold\nx", BadRow, 1),
        ):
            for step in range(2):
                with self.assertRaises(refusal) as caught:
                    ask(handed)
                self.assert_told(list(vars(caught.exception).values()), [want])
        self.test_by_place()

    def test_what_was_told_may_be_handed_in_again(self):
        far = ((10 ** 12, 10 ** 9),) * 12 + ((2 * 10 ** 12, 10 ** 9),) * 12
        then = turned(turned(stands(far, order_at(ROW, 0) + tuple(range(4, 24)))))
        self.assertEqual(then, far)
        self.assertIs(shows_never(then, never(then)), True)
        order = tuple(range(12, 24)) + tuple(range(12))
        self.assertIs(shows_way(far, order, way_to(far, order)), True)
        self.assertEqual(row_in(row_text(fed(then, 0, 10 ** 30))), fed(then, 0, 10 ** 30))
        herd = herd_last(herd_last(((0, 1, 10 ** 12), (9, 1, 10 ** 12), (50, 1, 7))))
        self.assertIs(is_herd(herd), True)
        self.assertEqual(herd_first(herd), ((0, 1, 10 ** 12), (9, 1, 10 ** 12), (50, 1, 7)))


if __name__ == "__main__":
    unittest.main()
