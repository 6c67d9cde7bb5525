"""The whole program: one last row, told alike by all who tell it."""

import unittest

from hayherd.desk import answers
from hayherd.ends import first, is_last, last, passings
from hayherd.fed import least_feed
from hayherd.fold import Fold
from hayherd.hay import hay
from hayherd.joined import last_of, piece
from hayherd.kept import stands
from hayherd.lots import herd_first, herd_last, herd_of, herd_passed, herd_passings, herd_places, row_of
from hayherd.never import never
from hayherd.rows import gone
from hayherd.texts import row_in, row_text
from hayherd.turned import turned
from hayherd.ways import way_to
from tests.helper import CHOICES, all_rows, drawn_rows, passed_till_last, stair


def desk_of(row, *rows):
    return answers("\n".join(["fold " + row_text(row)] + list(rows)))


class LastRow(unittest.TestCase):
    def test_by_all_who_tell_it(self):
        for row in all_rows():
            then, order = last(row)
            self.assertIs(is_last(then), True)
            self.assertEqual(passed_till_last(row, CHOICES[0])[:2], (then, order))
            # by a fold
            fold = Fold(row)
            self.assertEqual(fold.last_names(), list(order))
            fold.settle()
            self.assertEqual((fold.row(), fold.names()), (then, list(order)))
            # by its herd, by the turned row's first, by rows joined, by the deeds of way_to
            self.assertEqual(row_of(herd_last(herd_of(row))), then)
            self.assertEqual(first(turned(row))[1], order)
            self.assertEqual(turned(first(turned(row))[0]), then)
            self.assertEqual(last_of([piece(row, place, place + 1) for place in range(len(row))]), then)
            self.assertEqual(gone(row, way_to(row, order)), then)
            self.assertEqual(stands(row, order), then)

    def test_by_a_desk(self):
        for row in all_rows():
            if max(abs(strength) for strength, toll in row) < 10 ** 13:
                then, order = last(row)
                names = " ".join(str(name) for name in order)
                many = str(len(passings(row)))
                told = desk_of(row, "last", "settle", "names", "row", "may")
                self.assertEqual(told, [names, many, names, row_text(then), "-"])
                self.assertEqual(row_in(told[3]), then)

    def test_by_deeds_of_a_fold_one_by_one(self):
        for row in drawn_rows():
            fold = Fold(row)
            while fold.may_pass():
                fold.overtake(fold.may_pass()[0])
            settled = Fold(row)
            self.assertEqual(settled.settle(), fold.deeds())
            self.assertIs(fold == settled, True)

    def test_by_beasts_that_come_one_by_one(self):
        for row in drawn_rows():
            fold = Fold(())
            for strength, toll in row:
                fold.do([("come", strength, toll, None), ("settle",)])
            self.assertEqual((fold.row(), tuple(fold.names())), last(row))


class FirstRow(unittest.TestCase):
    def test_by_all_who_tell_it(self):
        for row in all_rows():
            then, order = first(row)
            fold = Fold(row)
            fold.unsettle()
            self.assertEqual((fold.row(), fold.names()), (then, list(order)))
            self.assertEqual(row_of(herd_first(herd_of(row))), then)
            self.assertEqual(last(turned(row))[1], order)
            self.assertEqual(gone(row, way_to(row, order)), then)


class WhoPassesWhom(unittest.TestCase):
    def test_by_all_who_tell_it(self):
        for row in drawn_rows():
            pairs = passings(row)
            herd = herd_of(row)
            table = never(row)
            want = [(one, other) for one in range(len(row)) for other in range(one + 1, len(row))
                    if other not in table[one]]
            self.assertEqual(pairs, want)
            self.assertEqual(herd_passings(herd), len(pairs))
            self.assertEqual(Fold(row).settle(), len(pairs))
            paid = [sum(row[one][1] for one, other in pairs if other == who) for who in range(len(row))]
            self.assertEqual([pay for taken, pay in hay(row)], paid)
            fold = Fold(row)
            fold.settle()
            self.assertEqual([fold.paid(who) for who in range(len(row))], paid)
            if len(herd) == len(row):
                passers = [other for one, other in pairs]
                self.assertEqual(herd_passed(herd), [passers.count(who) for who in range(len(row))])
                places = [last(row)[1].index(who) for who in range(len(row))]
                self.assertEqual(herd_places(herd), [(place, place) for place in places])

    def test_never_by_a_desk(self):
        row = stair(5, 2)[::-1] + stair(4, 1)
        for one, behind in enumerate(never(row)):
            told = desk_of(row, *[f"never {one} {other}" for other in range(len(row))])
            self.assertEqual(told, ["yes" if other in behind else "no" for other in range(len(row))])


class Fed(unittest.TestCase):
    def test_by_a_fold(self):
        for row in list(drawn_rows())[::3]:
            for who in range(len(row)):
                fold = Fold(row)
                feed = least_feed(row, who, 0)
                fold.feed(who, feed)
                self.assertEqual(fold.last_names()[0], who)
                if feed > 0:
                    fold.feed(who, -1)
                    self.assertNotEqual(fold.last_names()[0], who)


if __name__ == "__main__":
    unittest.main()
