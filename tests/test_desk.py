import inspect
import random
import unittest

from hayherd.desk import answers
from hayherd.ends import passings
from hayherd.errors import BadRow, Full, MayNot, NoBeast, NoPlace
from hayherd.fold import Fold
from hayherd.texts import row_text
from tests.helper import drawn_rows, stair

BEGIN = "fold 5:1 7:2 3:0 9:4"
# A row of each kind, so written.
ROWS = (
    "come 5 1", "come -5 0", "come 5 1 0", "come 0 0 99", "leave 0", "overtake 1", "fall 1", "feed 0 3", "feed 0 -3",
    "feed 0 0", "ask 0 3", "ask 0 0", "settle", "unsettle", "undo", "row", "names", "may", "last", "paid 0", "never 0 1",
)
FIGURES = "9" * 13
# None of these is a row of a desk, wherever it stands.
NO_ROWS = (
    "", " ", "x", "fold5:1", "Settle", "SETTLE", "settle ", " settle", "settle  ", "settle 0", "settle settle",
    "unsettle ", "undo 1", "undo ", "row 0", "row ", "names 0", "may 0", "last 0", "do", "do settle", "twin", "log",
    "deeds", "fall_back 1", "may_pass", "last_names", "pass 1", "come", "come 5", "come 5 ", "come 5 1 ", "come 5  1",
    "come  5 1", "come 5 1 0 0", "come 5 1 0 ", "come 5 -1", "come 5 -0", "come -0 1", "come 05 1", "come 5 01",
    "come +5 1", "come 5 +1", "come 5 1 -1", "come 5 1 -0", "come 5 1 00", "come 5 1 01", "come 5 1 None", "come 5:1",
    "come a 1", "come 5 a", "come 5 1 a", "come 5.0 1", "come --5 1", "come - 1", "leave", "leave ", "leave -1",
    "leave -0", "leave 00", "leave 01", "leave 0 0", "leave a", "leave +1", "overtake", "overtake -1", "overtake 1 1",
    "overtake 01", "fall", "fall -1", "fall 1 1", "fall 01", "feed", "feed 0", "feed 0 ", "feed -1 3", "feed 0 -0",
    "feed 0 03", "feed 0 +3", "feed 0 3 3", "feed 00 3", "feed 0 a", "ask", "ask 0", "ask 0 -1", "ask 0 -0", "ask 0 03",
    "ask -1 3", "ask 0 3 3", "ask 0 a", "paid", "paid -1", "paid 00", "paid 0 0", "paid a", "never", "never 0",
    "never 0 1 2", "never -1 0", "never 0 -1", "never 00 1", "never 0 01", "never a b", "never 0  1",
    "leave 1" + FIGURES, "come 1" + FIGURES + " 1", "come -1" + FIGURES + " 1", "come 5 1" + FIGURES,
    "come 5 1 1" + FIGURES, "feed 0 1" + FIGURES, "feed 0 -1" + FIGURES, "feed 1" + FIGURES + " 0", "ask 0 1" + FIGURES,
    "ask 1" + FIGURES + " 0", "paid 1" + FIGURES, "never 1" + FIGURES + " 0", "never 0 1" + FIGURES,
    "overtake 1" + FIGURES, "fall 1" + FIGURES, "settle\t", "\tsettle", "leave\t0", "settle\r", "5:1", "~", "- 1", "-",
    "leave \u0661", "come \u0665 1", "leave \u00b2",
)
NO_BEGINS = (
    "", " ", "fold ", "fold  5:1", " fold", "fold 5:1 ", "fold 5:1  7:2", "Fold", "fold5:1", "folds", "fold 5", "fold 5:",
    "fold :1", "fold 5:-1", "fold -0:1", "fold 05:1", "fold 5:01", "fold +5:1", "fold 5:1:1", "fold a:1", "fold 5:1 x",
    "fold -", "fold ()", "fold 5,1", "settle", "row", "x", "5:1 7:2", "fold fold", "fold 1" + FIGURES + ":1",
    "fold -1" + FIGURES + ":1", "fold 5:1" + FIGURES, "fold 5:1 1" + FIGURES + ":1", "fold\t5:1", "fold 5:1\t",
)


class Rows(unittest.TestCase):
    def assert_told(self, begin, *rows):
        """Rows one behind the other, each a pair of what is asked and what is told."""
        text = "\n".join([begin] + [asked for asked, told in rows])
        told = answers(text)
        self.assertIs(type(told), list)
        self.assertEqual(told, [told for asked, told in rows])
        self.assertTrue(all(type(part) is str for part in told))

    def test_come(self):
        self.assert_told(
            BEGIN, ("come 30 3", "4"), ("come -5 0 0", "5"), ("come 0 9 6", "6"), ("names", "5 0 1 2 3 4 6"),
            ("row", "-5:0 5:1 7:2 3:0 9:4 30:3 0:9"), ("come 1 1 8", "refused NoPlace"), ("come 1 1 7", "7"),
            ("come 1 1 9999999999999", "refused NoPlace"),
        )

    def test_leave(self):
        self.assert_told(
            BEGIN, ("leave 1", "done"), ("leave 1", "refused NoBeast"), ("names", "0 2 3"), ("come 1 1", "4"),
            ("leave 4", "done"), ("come 1 1", "5"), ("leave 9999999999999", "refused NoBeast"),
        )

    def test_overtake_and_fall(self):
        self.assert_told(
            BEGIN, ("overtake 1", "0"), ("row", "6:2 5:1 3:0 9:4"), ("overtake 1", "refused MayNot"),
            ("overtake 4", "refused NoBeast"), ("paid 1", "1"), ("fall 1", "0"), ("fall 1", "2"), ("paid 1", "0"),
            ("fall 1", "refused MayNot"), ("fall 7", "refused NoBeast"), ("names", "0 2 1 3"),
        )

    def test_feed_and_ask(self):
        self.assert_told(
            BEGIN, ("feed 2 40", "done"), ("feed 0 -9", "done"), ("ask 1 0", "done"), ("row", "-4:1 7:0 43:0 9:4"),
            ("feed 4 1", "refused NoBeast"), ("ask 4 1", "refused NoBeast"), ("feed 2 0", "done"),
        )

    def test_settle_and_unsettle(self):
        self.assert_told(
            BEGIN, ("last", "1 3 0 2"), ("settle", "3"), ("names", "1 3 0 2"), ("row", "6:2 8:4 5:1 3:0"),
            ("settle", "0"), ("paid 3", "1"), ("unsettle", "5"), ("row", "3:0 5:1 7:2 9:4"), ("unsettle", "0"),
            ("undo", "yes"), ("undo", "yes"), ("names", "1 3 0 2"),
        )

    def test_undo(self):
        self.assert_told(
            BEGIN, ("undo", "no"), ("come 1 1", "4"), ("overtake 9", "refused NoBeast"), ("undo", "yes"), ("undo", "no"),
            ("names", "0 1 2 3"), ("come 2 2", "4"),
        )

    def test_may_rises(self):
        self.assert_told("fold 9:0 1:0", ("come 5 0 0", "2"), ("come 3 0", "3"), ("names", "2 0 1 3"), ("may", "0 3"))

    def test_paid(self):
        self.assert_told(
            "fold 0:3 20:1", ("paid 1", "0"), ("overtake 1", "0"), ("ask 0 10", "done"), ("fall 1", "0"), ("paid 1", "-7"),
            ("paid 2", "refused NoBeast"), ("leave 1", "done"), ("paid 1", "refused NoBeast"), ("undo", "yes"),
            ("paid 1", "-7"),
        )

    def test_never(self):
        self.assert_told(
            BEGIN, ("never 0 1", "no"), ("never 0 2", "yes"), ("never 0 3", "no"), ("never 1 2", "yes"),
            ("never 1 3", "yes"), ("never 2 3", "no"), ("never 1 0", "no"), ("never 3 0", "no"), ("never 2 2", "no"),
            ("never 0 4", "refused NoBeast"), ("never 4 0", "refused NoBeast"), ("never 8 9", "refused NoBeast"),
            ("never 4 4", "refused NoBeast"), ("settle", "3"), ("never 0 1", "no"), ("never 1 0", "yes"),
            ("never 1 3", "yes"), ("leave 1", "done"), ("never 1 3", "refused NoBeast"), ("never 3 1", "refused NoBeast"),
        )

    def test_never_of_names_against_passings(self):
        for row in list(drawn_rows())[:30:4]:
            names = range(len(row))
            # The front one comes last, so that names are no places.
            begin = ["fold " + row_text(row[1:]), f"come {row[0][0]} {row[0][1]} 0"]
            name_of = [len(row) - 1] + list(range(len(row) - 1))
            asks = [(one, other) for one in names for other in names]
            told = answers("\n".join(begin + [f"never {name_of[one]} {name_of[other]}" for one, other in asks]))
            passing = set(passings(row))
            want = ["yes" if one < other and (one, other) not in passing else "no" for one, other in asks]
            self.assertEqual(told[1:], want)

    def test_of_none(self):
        self.assert_told(
            "fold", ("row", "-"), ("names", "-"), ("may", "-"), ("last", "-"), ("undo", "no"), ("settle", "0"),
            ("unsettle", "0"), ("leave 0", "refused NoBeast"), ("paid 0", "refused NoBeast"),
            ("never 0 0", "refused NoBeast"), ("come 1 1 1", "refused NoPlace"), ("come 5 1", "0"), ("row", "5:1"),
            ("names", "0"), ("may", "-"), ("last", "0"), ("leave 0", "done"), ("row", "-"),
        )

    def test_full(self):
        begin = "fold " + row_text(stair(24))
        self.assert_told(begin, ("come 1 1", "refused Full"), ("come 1 1 99", "refused Full"), ("leave 3", "done"),
                         ("come 1 1 99", "refused NoPlace"), ("come 1 1", "24"), ("come 1 1", "refused Full"))

    def test_thirteen_figures(self):
        self.assert_told(
            f"fold {FIGURES}:{FIGURES} -{FIGURES}:0", ("row", f"{FIGURES}:{FIGURES} -{FIGURES}:0"),
            (f"come -{FIGURES} {FIGURES}", "2"), (f"feed 2 -{FIGURES}", "done"), (f"ask 1 {FIGURES}", "done"),
            ("row", f"{FIGURES}:{FIGURES} -{FIGURES}:{FIGURES} -19999999999998:{FIGURES}"),
            (f"come 1 1 {FIGURES}", "refused NoPlace"), (f"never 0 {FIGURES}", "refused NoBeast"),
            (f"feed {FIGURES} 0", "refused NoBeast"), (f"paid {FIGURES}", "refused NoBeast"),
        )

    def test_the_first_row_alone(self):
        for begin in ("fold", "fold 5:1", BEGIN):
            self.assertEqual(answers(begin), [])

    def test_each_row_so_written(self):
        for row in ROWS:
            self.assertEqual(len(answers("\n".join([BEGIN, row, row]))), 2)

    def test_sixty_rows(self):
        told = answers("\n".join(["fold"] + [f"come {step} 0" for step in range(24)] + ["settle", "undo"] * 17))
        self.assertEqual(told, [str(step) for step in range(24)] + ["276", "yes"] * 17)


class Refused(unittest.TestCase):
    def assert_bad(self, text, number):
        with self.assertRaises(BadRow) as caught:
            answers(text)
        self.assertEqual(vars(caught.exception), {"number": number}, repr(text))

    def test_rows_that_are_not_so_written(self):
        for row in NO_ROWS:
            self.assert_bad("\n".join([BEGIN, row]), 1)
            self.assert_bad("\n".join(["fold", "settle", row, "row"]), 2)
            self.assert_bad("\n".join([BEGIN] + list(ROWS) + [row, row]), len(ROWS) + 1)

    def test_first_rows_that_are_not_so_written(self):
        for begin in NO_BEGINS:
            self.assert_bad(begin, 0)
            self.assert_bad(begin + "\nsettle\nrow", 0)
            self.assert_bad(begin + "\nx", 0)

    def test_fold_not_first(self):
        for row in ROWS + NO_ROWS:
            self.assert_bad(row + "\n" + BEGIN, 0)
            self.assert_bad(row + "\nfold", 0)
        self.assert_bad("\n" + BEGIN, 0)

    def test_fold_a_second_time(self):
        for again in ("fold", BEGIN):
            self.assert_bad(BEGIN + "\n" + again, 1)
            self.assert_bad("fold\nsettle\n" + again + "\nrow", 2)

    def test_line_feeds(self):
        self.assert_bad(BEGIN + "\n", 1)
        self.assert_bad(BEGIN + "\nsettle\n", 2)
        self.assert_bad(BEGIN + "\n\nsettle", 1)
        self.assert_bad(BEGIN + "\nsettle\n\n", 2)
        self.assert_bad("\n", 0)
        self.assert_bad("", 0)

    def test_the_first_of_several(self):
        self.assert_bad("\n".join([BEGIN, "settle", "x", "row", "y"]), 2)
        self.assert_bad("\n".join([BEGIN, "leave 9", "overtake 0", "x"]), 3)


class Told(unittest.TestCase):
    def test_by_name(self):
        self.assertEqual(list(inspect.signature(answers).parameters), ["text"])
        self.assertEqual(answers(text="fold\nundo"), ["no"])

    def test_a_told_list_that_is_changed(self):
        text = BEGIN + "\nsettle\nnames"
        for step in range(3):
            told = answers(text)
            self.assertEqual(told, ["3", "1 3 0 2"])
            told.clear()
        self.assertIsNot(answers("fold"), answers("fold"))

    def test_against_a_fold(self):
        draw = random.Random(17)
        for step in range(40):
            row = tuple((draw.randint(-9, 30), draw.randint(0, 3)) for beast in range(draw.choice((0, 1, 5, 22))))
            rows = [draw.choice(("leave {}", "overtake {}", "fall {}", "feed {} 7", "ask {} 2", "paid {}", "settle", "row",
                                 "unsettle", "undo", "names", "may", "last", "come 9 2", "come 9 1 {}", "undo"))
                    .format(draw.randint(0, 25 if row[5:] else 6)) for line in range(55)]
            fold = Fold(row)
            want = [self.by_fold(fold, line.split(" ")) for line in rows]
            self.assertEqual(answers("\n".join([("fold " + row_text(row)).strip()] + rows)), want)

    def by_fold(self, fold, words):
        word, numbers = words[0], [int(part) for part in words[1:]]
        try:
            if word == "come":
                told = fold.come(*numbers[:2], place=numbers[2]) if numbers[2:] else fold.come(*numbers)
            elif word == "row":
                return " ".join(f"{strength}:{toll}" for strength, toll in fold.row()) or "-"
            else:
                method = {"fall": "fall_back", "may": "may_pass", "last": "last_names"}.get(word, word)
                told = getattr(fold, method)(*numbers)
        except (Full, NoPlace, NoBeast, MayNot) as refusal:
            return "refused " + type(refusal).__name__
        if isinstance(told, list):
            return " ".join(str(name) for name in told) or "-"
        return {True: "yes", False: "no", None: "done"}[told] if told is None or isinstance(told, bool) else str(told)


if __name__ == "__main__":
    unittest.main()
