import inspect
import random
import unittest

from hayherd.ends import first, last, passings
from hayherd.errors import BadDeed, Full, MayNot, NoBeast, NoPlace
from hayherd.fold import Fold
from hayherd.rows import fallen, is_row, may_fall, may_pass, passed
from tests.helper import FAR, NO_THINGS, all_rows, drawn_rows, stair

ROW = ((5, 1), (7, 2), (3, 0), (9, 4))
ODD = (-1, -2, 4, 24, 99, -FAR, 10 ** 30, -(10 ** 5000))
TOLL = 10 ** 9
REFUSALS = (Full, NoPlace, NoBeast, MayNot)
WORDS = ("come", "leave", "overtake", "fall_back", "feed", "ask", "settle", "unsettle")


def told_by(fold):
    """All that can be asked of a fold, but its log and how many deeds stand."""
    names = fold.names()
    return (
        fold.row(), names, fold.may_pass(), fold.may_fall(), fold.last_names(),
        [fold.paid(name) for name in names], len(fold),
    )


def all_told_by(fold):
    return told_by(fold) + (fold.deeds(), fold.log())


def do_deed(fold, deed):
    """Done by its method, not by do."""
    word, *handed = deed
    if word == "come":
        return fold.come(handed[0], handed[1], place=handed[2])
    return getattr(fold, word)(*handed)


def drawn_deed(draw, fold):
    """A deed that often can be done, but not always."""
    names = fold.names() + [draw.choice((-1, 3, 40))]
    name, word = draw.choice(names), draw.choice(WORDS)
    if word == "come":
        return word, draw.randint(-9, 30), draw.randint(0, 3), draw.choice((None, 0, 1, 3, len(fold), len(fold) + 1, -1))
    if word in ("settle", "unsettle"):
        return (word,)
    if word == "feed":
        return word, name, draw.randint(-9, 9)
    if word == "ask":
        return word, name, draw.randint(0, 4)
    if word == "overtake" and fold.may_pass() and draw.random() < 0.7:
        return word, draw.choice(fold.may_pass())
    if word == "fall_back" and fold.may_fall() and draw.random() < 0.7:
        return word, draw.choice(fold.may_fall())
    return word, name


class Plain:
    """The same fold, kept another way: a list of beasts, done deed by deed, passing by passing."""

    def __init__(self, row):
        self.beasts = [[name, strength, toll, 0] for name, (strength, toll) in enumerate(row)]
        self.coming = len(row)

    def row(self):
        return tuple((strength, toll) for name, strength, toll, paid in self.beasts)

    def swap(self, ahead, word):
        one, other = self.beasts[ahead:ahead + 2]
        if word == "pass":
            other[1] -= one[2]
            other[3] += one[2]
        else:
            one[1] += other[2]
            one[3] -= other[2]
        self.beasts[ahead:ahead + 2] = [other, one]

    def settle(self):
        many = 0
        while may_pass(self.row()):
            self.swap(may_pass(self.row())[-1] - 1, "pass")
            many += 1
        return many

    def unsettle(self):
        many = 0
        while may_fall(self.row()):
            self.swap(may_fall(self.row())[-1], "fall")
            many += 1
        return many

    def do(self, deed):
        word, *handed = deed
        if word in ("settle", "unsettle"):
            return self.settle() if word == "settle" else self.unsettle()
        if word == "come":
            place = len(self.beasts) if handed[2] is None else handed[2]
            self.beasts.insert(place, [self.coming, handed[0], handed[1], 0])
            self.coming += 1
            return self.coming - 1
        place = [beast[0] for beast in self.beasts].index(handed[0])
        if word == "leave":
            del self.beasts[place]
        elif word == "feed":
            self.beasts[place][1] += handed[1]
        elif word == "ask":
            self.beasts[place][2] = handed[1]
        else:
            ahead = place - 1 if word == "overtake" else place
            self.swap(ahead, "pass" if word == "overtake" else "fall")
            return self.beasts[ahead + 1][0] if word == "overtake" else self.beasts[ahead][0]
        return None


class FoldCase(unittest.TestCase):
    def assert_refused(self, fold, refusal, field, deed):
        """It's refused so, by that deed and by a do of it alone, and the fold is as it was."""
        before = all_told_by(fold)
        with self.assertRaises(refusal) as caught:
            do_deed(fold, deed)
        self.assertIs(type(caught.exception), refusal)
        self.assertEqual(list(vars(caught.exception).values()), [field])
        self.assertEqual(all_told_by(fold), before)
        twin = fold.twin()
        for whole in (True, False):
            with self.assertRaises(refusal) as caught:
                twin.do([deed], whole=whole)
            self.assertEqual(list(vars(caught.exception).values()), [field])
            self.assertEqual(told_by(twin), told_by(fold))
            self.assertEqual(twin.deeds(), fold.deeds())
        self.assertEqual(twin.log(), [("in", 1), ("out", 0)] * 2)


class Made(FoldCase):
    def test_of_a_row(self):
        for row in all_rows():
            fold = Fold(row)
            self.assertEqual(fold.row(), row)
            self.assertIs(is_row(fold.row()), True)
            self.assertEqual(fold.names(), list(range(len(row))))
            self.assertEqual(len(fold), len(row))
            self.assertEqual([fold.paid(name) for name in fold.names()], [0] * len(row))
            self.assertEqual((fold.deeds(), fold.log()), (0, []))
            self.assertIs(fold.undo(), False)

    def test_what_may_be_done(self):
        for row in all_rows():
            fold = Fold(row)
            self.assertEqual(fold.may_pass(), may_pass(row))
            self.assertEqual(fold.may_fall(), may_fall(row))
            self.assertEqual(fold.last_names(), list(last(row)[1]))

    def test_of_none(self):
        fold = Fold(())
        self.assertEqual(repr(told_by(fold)), repr(((), [], [], [], [], [], 0)))
        self.assertIs(fold.undo(), False)
        for deed in (("leave", 0), ("overtake", 0), ("fall_back", 0), ("feed", 0, 1), ("ask", 0, 1)):
            self.assert_refused(fold, NoBeast, 0, deed)
        self.assert_refused(fold, NoPlace, 1, ("come", 5, 1, 1))
        self.assertEqual((fold.settle(), fold.unsettle(), fold.deeds()), (0, 0, 2))
        self.assertEqual(fold.come(5, 1), 0)
        self.assertEqual((fold.row(), fold.names()), (((5, 1),), [0]))

    def test_each_method_stands_in_the_class(self):
        for name in WORDS + ("undo", "do", "row", "names", "may_pass", "may_fall", "last_names", "paid", "deeds", "log",
                             "twin", "__len__", "__eq__", "__init__"):
            self.assertIn(name, vars(Fold))

    def test_names_of_arguments(self):
        star = inspect.Parameter.KEYWORD_ONLY
        for method, names, by_name_alone in (
            ("__init__", ["row"], []), ("come", ["strength", "toll", "place"], ["place"]), ("leave", ["name"], []),
            ("overtake", ["name"], []), ("fall_back", ["name"], []), ("feed", ["name", "by"], []),
            ("ask", ["name", "toll"], []), ("settle", [], []), ("unsettle", [], []), ("undo", [], []),
            ("do", ["deeds", "whole"], ["whole"]), ("row", [], []), ("names", [], []), ("may_pass", [], []),
            ("may_fall", [], []), ("last_names", [], []), ("paid", ["name"], []), ("deeds", [], []), ("log", [], []),
            ("twin", [], []),
        ):
            told = list(inspect.signature(getattr(Fold, method)).parameters.values())[1:]
            self.assertEqual([part.name for part in told], names)
            self.assertEqual([part.name for part in told if part.kind == star], by_name_alone)

    def test_called_by_names(self):
        fold = Fold(row=ROW)
        self.assertEqual(fold.come(toll=1, strength=30, place=0), 4)
        self.assertEqual(fold.come(strength=30, toll=1), 5)
        self.assertEqual(fold.names(), [4, 0, 1, 2, 3, 5])
        self.assertEqual(fold.overtake(name=1), 0)
        self.assertEqual(fold.fall_back(name=1), 0)
        fold.feed(name=1, by=3)
        fold.ask(toll=8, name=1)
        self.assertEqual(fold.row()[2], (10, 8))
        self.assertEqual(fold.paid(name=1), 0)
        fold.leave(name=4)
        self.assertEqual(fold.do(deeds=[("settle",)], whole=False), [7])
        for wrong in (lambda: fold.come(1, 1, 0), lambda: fold.do([], True)):
            with self.assertRaises(TypeError):
                wrong()

    def test_a_refusal_of_a_number_of_many_figures(self):
        fold = Fold(ROW)
        with self.assertRaises(NoPlace):
            fold.come(5, 1, place=10 ** 5000)
        with self.assertRaises(NoBeast):
            fold.paid(-(10 ** 5000))


class Coming(FoldCase):
    def test_at_the_back_and_at_each_place(self):
        for place in (None, 0, 1, 2, 3, 4):
            fold = Fold(ROW)
            self.assertEqual(fold.come(8, 3, place=place), 4)
            at = 4 if place is None else place
            self.assertEqual(fold.names().index(4), at)
            self.assertEqual(fold.row(), ROW[:at] + ((8, 3),) + ROW[at:])
            self.assertEqual((fold.paid(4), len(fold), fold.deeds()), (0, 5, 1))

    def test_nobody_is_asked_to_pass_by_it(self):
        fold = Fold(((9, 0),))
        fold.come(-FAR, TOLL, place=0)
        fold.come(FAR, 0)
        self.assertEqual(fold.row(), ((-FAR, TOLL), (9, 0), (FAR, 0)))

    def test_no_place(self):
        for row in ((), ROW[:1], ROW, stair(23)):
            for place in (-1, -2, len(row) + 1, len(row) + 2, -len(row) - 1, 99, FAR, -FAR, 10 ** 30):
                self.assert_refused(Fold(row), NoPlace, place, ("come", 5, 1, place))

    def test_full(self):
        fold = Fold(stair(23))
        self.assertEqual(fold.come(5, 1, place=7), 23)
        for place in (None, 0, 24):
            self.assert_refused(fold, Full, 24, ("come", 5, 1, place))
        fold.leave(3)
        self.assertEqual(fold.come(5, 1, place=23), 24)
        self.assert_refused(fold, Full, 24, ("come", 5, 1, None))
        self.assertIs(fold.undo(), True)
        self.assertEqual(fold.come(5, 1), 24)

    def test_full_goes_ahead_of_no_place(self):
        fold = Fold(stair(24))
        for place in (-1, 25, 99, -FAR):
            self.assert_refused(fold, Full, 24, ("come", 5, 1, place))

    def test_from_none_to_twenty_four(self):
        fold = Fold(())
        for name in range(24):
            self.assertEqual(fold.come(name, 0, place=0), name)
        self.assertEqual(fold.names(), list(range(23, -1, -1)))
        self.assertEqual(fold.row(), tuple((name, 0) for name in range(23, -1, -1)))


class Leaving(FoldCase):
    def test_each(self):
        for name in range(4):
            fold = Fold(ROW)
            self.assertIsNone(fold.leave(name))
            self.assertEqual(fold.names(), [other for other in range(4) if other != name])
            self.assertEqual(fold.row(), ROW[:name] + ROW[name + 1:])
            self.assertEqual((len(fold), fold.deeds()), (3, 1))
            self.assert_refused(fold, NoBeast, name, ("leave", name))
            with self.assertRaises(NoBeast) as caught:
                fold.paid(name)
            self.assertEqual(caught.exception.name, name)

    def test_its_name_is_left_to_nobody(self):
        fold = Fold(ROW)
        fold.leave(3)
        self.assertEqual(fold.come(1, 1), 4)
        fold.leave(4)
        self.assertEqual(fold.come(1, 1), 5)
        for name in fold.names():
            fold.leave(name)
        self.assertEqual((fold.row(), fold.names(), len(fold)), ((), [], 0))
        self.assertEqual(fold.come(1, 1, place=0), 6)

    def test_but_by_undo(self):
        fold = Fold(ROW)
        self.assertEqual(fold.come(1, 1), 4)
        fold.undo()
        self.assertEqual(fold.come(2, 2), 4)
        fold.leave(4)
        self.assertEqual(fold.come(3, 3), 5)
        fold.undo()
        fold.undo()
        self.assertEqual(fold.names(), [0, 1, 2, 3, 4])
        self.assertEqual(fold.come(3, 3), 5)
        fold.undo()
        fold.undo()
        self.assertEqual(fold.come(3, 3), 4)

    def test_nobody_of_that_name(self):
        for name in ODD:
            for deed in (("leave", name), ("overtake", name), ("fall_back", name), ("feed", name, 3), ("ask", name, 3)):
                self.assert_refused(Fold(ROW), NoBeast, name, deed)
            with self.assertRaises(NoBeast) as caught:
                Fold(ROW).paid(name)
            self.assertEqual(caught.exception.name, name)


class Passing(FoldCase):
    def test_by_hand(self):
        fold = Fold(ROW)
        self.assertEqual(fold.overtake(1), 0)
        self.assertEqual((fold.row(), fold.names()), (((6, 2), (5, 1), (3, 0), (9, 4)), [1, 0, 2, 3]))
        self.assertEqual([fold.paid(name) for name in range(4)], [0, 1, 0, 0])
        self.assertEqual(fold.overtake(3), 2)
        self.assertEqual(fold.may_pass(), [3])
        self.assertEqual(fold.overtake(3), 0)
        self.assertEqual(fold.names(), [1, 3, 0, 2])
        self.assertEqual(fold.fall_back(3), 0)
        self.assertEqual(fold.fall_back(3), 2)
        self.assertEqual(fold.fall_back(1), 0)
        self.assertEqual((fold.row(), fold.names()), (ROW, [0, 1, 2, 3]))
        self.assertEqual([fold.paid(name) for name in range(4)], [0, 0, 0, 0])
        self.assertEqual(fold.fall_back(1), 2)
        self.assertEqual(fold.deeds(), 7)

    def test_against_rows(self):
        for row in drawn_rows():
            for place in range(len(row)):
                fold = Fold(row)
                if place in may_pass(row):
                    self.assertEqual(fold.overtake(place), place - 1)
                    self.assertEqual(fold.row(), passed(row, place))
                    self.assertEqual(fold.paid(place), row[place - 1][1])
                else:
                    self.assert_refused(fold, MayNot, place, ("overtake", place))
                fold = Fold(row)
                if place in may_fall(row):
                    self.assertEqual(fold.fall_back(place), place + 1)
                    self.assertEqual(fold.row(), fallen(row, place))
                    self.assertEqual(fold.paid(place), -row[place + 1][1])
                else:
                    self.assert_refused(fold, MayNot, place, ("fall_back", place))

    def test_may_not_tells_the_name(self):
        fold = Fold(((5, 1), (5, 1)))
        fold.come(4, 0, place=0)
        fold.come(90, 0)
        self.assertEqual(fold.names(), [2, 0, 1, 3])
        for name in (2, 1):
            self.assert_refused(fold, MayNot, name, ("overtake", name))
        for name in (2, 0, 1, 3):
            self.assert_refused(fold, MayNot, name, ("fall_back", name))
        self.assertEqual(fold.overtake(3), 1)

    def test_no_beast_goes_ahead_of_may_not(self):
        fold = Fold(ROW)
        fold.leave(0)
        # Nobody is called so, though somebody stands at that place who may not.
        for word in ("overtake", "fall_back"):
            self.assert_refused(fold, NoBeast, 0, (word, 0))

    def test_names_rise(self):
        fold = Fold(((9, 0), (1, 0)))
        fold.come(5, 0, place=0)
        fold.come(3, 0)
        # As they stand: 5, 9, 1, 3, called 2, 0, 1, 3.
        self.assertEqual((fold.names(), fold.may_pass(), fold.may_fall()), ([2, 0, 1, 3], [0, 3], [0]))
        fold.feed(2, 20)
        self.assertEqual((fold.may_pass(), fold.may_fall()), ([3], [0, 2]))
        self.assertEqual(fold.last_names(), [2, 0, 3, 1])


class Feeding(FoldCase):
    def test_feed(self):
        fold = Fold(ROW)
        self.assertIsNone(fold.feed(2, 40))
        self.assertEqual(fold.row(), ((5, 1), (7, 2), (43, 0), (9, 4)))
        fold.feed(2, -50)
        fold.feed(0, 0)
        fold.feed(3, FAR)
        self.assertEqual(fold.row(), ((5, 1), (7, 2), (-7, 0), (9 + FAR, 4)))
        self.assertEqual((fold.deeds(), fold.names()), (4, [0, 1, 2, 3]))
        self.assertEqual([fold.paid(name) for name in range(4)], [0] * 4)

    def test_ask(self):
        fold = Fold(ROW)
        self.assertIsNone(fold.ask(0, 9))
        self.assertEqual(fold.row(), ((5, 9), (7, 2), (3, 0), (9, 4)))
        self.assertEqual(fold.may_pass(), [3])
        fold.ask(0, 0)
        fold.ask(3, TOLL)
        self.assertEqual(fold.row(), ((5, 0), (7, 2), (3, 0), (9, TOLL)))
        self.assertEqual(fold.deeds(), 3)

    def test_by_name_not_by_place(self):
        fold = Fold(ROW)
        fold.overtake(1)
        fold.feed(1, 10)
        fold.ask(0, 7)
        self.assertEqual(fold.row(), ((16, 2), (5, 7), (3, 0), (9, 4)))


class Settling(FoldCase):
    def test_by_hand(self):
        fold = Fold(ROW)
        self.assertEqual(fold.last_names(), [1, 3, 0, 2])
        self.assertEqual(fold.settle(), 3)
        self.assertEqual((fold.row(), fold.names()), (((6, 2), (8, 4), (5, 1), (3, 0)), [1, 3, 0, 2]))
        self.assertEqual([fold.paid(name) for name in range(4)], [0, 1, 0, 1])
        self.assertEqual((fold.settle(), fold.deeds()), (0, 2))
        self.assertEqual(fold.unsettle(), 5)
        self.assertEqual((fold.row(), fold.names()), (((3, 0), (5, 1), (7, 2), (9, 4)), [2, 0, 1, 3]))
        self.assertEqual([fold.paid(name) for name in range(4)], [0] * 4)

    def test_against_ends(self):
        for row in all_rows():
            fold = Fold(row)
            names = fold.last_names()
            self.assertEqual(fold.settle(), len(passings(row)))
            then, order = last(row)
            self.assertEqual((fold.row(), fold.names()), (then, list(order)))
            self.assertEqual(names, list(order))
            self.assertEqual(fold.may_pass(), [])
            for place, who in enumerate(order):
                self.assertEqual(fold.paid(who), row[who][0] - then[place][0])
            fold.unsettle()
            then, order = first(row)
            self.assertEqual((fold.row(), fold.names()), (then, list(order)))
            self.assertEqual(fold.may_fall(), [])
            for place, who in enumerate(order):
                self.assertEqual(fold.paid(who), row[who][0] - then[place][0])


class Paid(FoldCase):
    def test_each_toll_as_it_was_then(self):
        fold = Fold(((0, 3), (20, 1)))
        fold.overtake(1)
        self.assertEqual((fold.paid(1), fold.row()), (3, ((17, 1), (0, 3))))
        fold.ask(0, 10)
        self.assertEqual(fold.paid(1), 3)
        fold.fall_back(1)
        # It paid 3, and has 10 again.
        self.assertEqual((fold.paid(1), fold.row()), (-7, ((0, 10), (27, 1))))
        fold.ask(0, 5)
        self.assertEqual(fold.settle(), 1)
        self.assertEqual(fold.paid(1), -2)
        fold.ask(0, 50)
        self.assertEqual(fold.unsettle(), 1)
        self.assertEqual((fold.paid(1), fold.paid(0)), (-52, 0))
        for paid in (-2, -2, -7, -7, 3, 3, 0):
            self.assertIs(fold.undo(), True)
            self.assertEqual(fold.paid(1), paid)
        self.assertEqual((fold.deeds(), fold.row()), (0, ((0, 3), (20, 1))))

    def test_what_one_is_fed_is_not_paid(self):
        fold = Fold(((0, 3), (20, 1)))
        fold.feed(1, -5)
        fold.feed(0, 7)
        self.assertEqual((fold.paid(0), fold.paid(1)), (0, 0))
        fold.settle()
        fold.feed(1, 100)
        self.assertEqual((fold.paid(0), fold.paid(1)), (0, 3))

    def test_who_leaves_leaves_what_others_paid(self):
        fold = Fold(((0, 3), (20, 1)))
        fold.settle()
        fold.leave(0)
        self.assertEqual(fold.paid(1), 3)
        fold.leave(1)
        with self.assertRaises(NoBeast):
            fold.paid(1)
        fold.undo()
        self.assertEqual(fold.paid(1), 3)

    def test_one_that_comes_has_paid_nothing(self):
        fold = Fold(ROW)
        fold.settle()
        fold.leave(1)
        name = fold.come(FAR, 0)
        self.assertEqual(fold.paid(name), 0)
        fold.settle()
        self.assertEqual(fold.paid(name), 5)


class Undoing(FoldCase):
    def test_each_kind_of_deed(self):
        for deed in (
            ("come", 5, 1, None), ("come", 5, 1, 0), ("leave", 0), ("leave", 3), ("overtake", 1), ("overtake", 3),
            ("fall_back", 1), ("feed", 2, 40), ("feed", 2, 0), ("ask", 0, 9), ("ask", 0, 1), ("settle",), ("unsettle",),
        ):
            fold = Fold(ROW)
            before = all_told_by(fold)
            do_deed(fold, deed)
            self.assertEqual(fold.deeds(), 1)
            self.assertIs(fold.undo(), True)
            self.assertEqual(all_told_by(fold), before)
            self.assertIs(fold.undo(), False)
            self.assertEqual(all_told_by(fold), before)

    def test_deeds_of_nothing(self):
        fold = Fold(last(ROW)[0])
        self.assertEqual(fold.settle(), 0)
        self.assertEqual(fold.deeds(), 1)
        fold.unsettle()
        self.assertEqual(fold.unsettle(), 0)
        self.assertEqual(fold.deeds(), 3)
        self.assertEqual([fold.undo() for step in range(4)], [True, True, True, False])

    def test_undone_one_by_one(self):
        draw = random.Random(60)
        for row in list(drawn_rows())[::3] + [()]:
            fold, told = Fold(row[:20]), []
            while fold.deeds() < 60:
                before = told_by(fold)
                try:
                    do_deed(fold, drawn_deed(draw, fold))
                except REFUSALS:
                    continue
                told.append(before)
            while told:
                self.assertEqual(fold.deeds(), len(told))
                self.assertIs(fold.undo(), True)
                self.assertEqual(told_by(fold), told.pop())
            self.assertIs(fold.undo(), False)

    def test_what_was_refused_is_not_undone(self):
        fold = Fold(ROW)
        fold.feed(0, 3)
        with self.assertRaises(NoBeast):
            fold.feed(9, 3)
        with self.assertRaises(MayNot):
            fold.overtake(0)
        self.assertIs(fold.undo(), True)
        self.assertEqual(fold.row(), ROW)
        self.assertIs(fold.undo(), False)


class Doing(FoldCase):
    DEEDS = (
        ("come", 30, 3, None), ("overtake", 4), ("feed", 4, -2), ("settle",), ("ask", 0, 6), ("come", 8, 0, 1),
        ("leave", 2), ("unsettle",), ("fall_back", 4),
    )

    def test_each_tells_what_its_method_tells(self):
        for many in range(8):
            deeds = list(self.DEEDS[:many])
            one, other = Fold(ROW), Fold(ROW)
            self.assertEqual(repr(one.do(deeds)), repr([do_deed(other, deed) for deed in deeds]))
            self.assertEqual(told_by(one), told_by(other))
            self.assertEqual(one.deeds(), many)
            self.assertEqual(one.log(), [("in", many), ("out", many)])
            self.assertEqual(other.log(), [])
            self.assertEqual(deeds, list(self.DEEDS[:many]))

    def test_by_hand(self):
        fold = Fold(ROW)
        self.assertEqual(fold.do(self.DEEDS[:8]), [4, 3, None, 6, None, 5, None, 9])
        self.assertEqual(fold.names(), [0, 1, 3, 5, 4])

    def test_each_is_undone_by_itself(self):
        fold, told = Fold(ROW), []
        for deed in self.DEEDS[:8]:
            told.append(told_by(fold))
            do_deed(fold, deed)
        fold = Fold(ROW)
        fold.do(self.DEEDS[:8])
        while told:
            self.assertIs(fold.undo(), True)
            self.assertEqual(told_by(fold), told.pop())
        self.assertIs(fold.undo(), False)
        self.assertEqual(fold.log(), [("in", 8), ("out", 8)])

    def test_of_none(self):
        fold = Fold(ROW)
        for deeds in ([], ()):
            self.assertEqual(fold.do(deeds), [])
        self.assertEqual(fold.do([], whole=False), [])
        self.assertEqual((fold.deeds(), fold.log()), (0, [("in", 0), ("out", 0)] * 3))

    def test_a_refusal_at_each_place(self):
        for at in range(9):
            for deed, refusal, field in (
                (("leave", 77), NoBeast, 77), (("come", 1, 1, 99), NoPlace, 99), (("come", 1, 1, -1), NoPlace, -1),
                (("overtake", 0), MayNot, 0), (("feed", -4, 1), NoBeast, -4), (("ask", 10 ** 30, 1), NoBeast, 10 ** 30),
            ):
                deeds = list(self.DEEDS[:8])
                deeds.insert(at, deed)
                ahead = Fold(ROW)
                ahead.feed(1, 1)
                before = told_by(ahead)
                fold, other = ahead.twin(), ahead.twin()
                for ahead_of in deeds[:at]:
                    do_deed(ahead, ahead_of)
                if deed == ("overtake", 0) and 0 in ahead.may_pass():
                    continue
                for asked, whole in ((fold, {}), (fold, {"whole": True}), (other, {"whole": False})):
                    with self.assertRaises(refusal) as caught:
                        asked.do(deeds, **whole)
                    self.assertEqual(list(vars(caught.exception).values()), [field])
                self.assertEqual((told_by(fold), fold.deeds()), (before, 1))
                self.assertEqual(fold.log(), [("in", 9), ("out", at)] * 2)
                self.assertEqual((told_by(other), other.deeds()), (told_by(ahead), at + 1))
                self.assertEqual(other.log(), [("in", 9), ("out", at)])
                # The next one that comes is called as if none had been done.
                self.assertEqual(fold.come(1, 1), 4)
                self.assertEqual(other.come(1, 1), ahead.come(1, 1))

    def test_full_in_the_midst(self):
        for whole in (True, False):
            fold = Fold(stair(22))
            with self.assertRaises(Full) as caught:
                fold.do([("come", 1, 1, None)] * 5, whole=whole)
            self.assertEqual(caught.exception.many, 24)
            self.assertEqual((len(fold), fold.deeds()), (22, 0) if whole else (24, 2))
            self.assertEqual(fold.log(), [("in", 5), ("out", 2)])

    def test_whole_that_is_refused_keeps_what_stood_ahead(self):
        fold = Fold(ROW)
        fold.settle()
        fold.feed(2, 7)
        before = told_by(fold)
        with self.assertRaises(MayNot):
            fold.do([("unsettle",), ("leave", 1), ("overtake", 2), ("overtake", 2)])
        self.assertEqual((told_by(fold), fold.deeds()), (before, 2))
        self.assertIs(fold.undo(), True)
        self.assertIs(fold.undo(), True)
        self.assertEqual((fold.row(), fold.names()), (ROW, [0, 1, 2, 3]))

    def test_twelve_deeds(self):
        fold = Fold(())
        self.assertEqual(fold.do([("come", step, 0, 0) for step in range(12)]), list(range(12)))
        self.assertEqual((len(fold), fold.deeds()), (12, 12))


class BadDeeds(FoldCase):
    NO_DEEDS = (
        (), ("come",), ("come", 5), ("come", 5, 1), ("come", 5, 1, None, None), ("come", 5, 1, 0, 0), ("leave",),
        ("leave", 0, 0), ("overtake",), ("overtake", 0, 1), ("fall_back",), ("fall_back", 0, 1), ("feed", 0), ("feed",),
        ("feed", 0, 1, 1), ("ask", 0), ("ask", 0, 1, 1), ("settle", 0), ("settle", None), ("unsettle", 0),
        ("undo",), ("do",), ("do", []), ("do", [("settle",)]), ("undo", 0), ("fall", 0), ("pass", 1), ("row",),
        ("names",), ("twin",), ("Settle",), ("settle ",), ("",), ("paid", 0), ("log",), ("deeds",), ("may_pass",),
        ["settle"], ["leave", 0], [], [("settle",)], (("settle",),), "settle", "", "leave 0", None, True, False, 0, 7,
        (None,), (True,), (0,), (0, "leave"), ([],), (["settle"],), (("settle",), 0), ((),),
        ("leave", None), ("leave", True), ("leave", False), ("leave", "0"), ("leave", (0,)), ("leave", [0]),
        ("overtake", True), ("overtake", None), ("fall_back", "1"), ("feed", 0, None), ("feed", None, 0),
        ("feed", 0, True), ("feed", False, 1), ("ask", 0, None), ("ask", 0, -1), ("ask", 0, False), ("ask", [], 1),
        ("come", None, 1, None), ("come", 5, None, None), ("come", 5, -1, None), ("come", 5, True, None),
        ("come", "5", 1, None), ("come", 5, 1, True), ("come", 5, 1, "0"), ("come", 5, 1, [0]), ("come", 5, 1, ()),
    ) + NO_THINGS

    def assert_bad(self, fold, deeds, number):
        before = all_told_by(fold)
        for whole in (True, False):
            with self.assertRaises(BadDeed) as caught:
                fold.do(deeds, whole=whole)
            self.assertEqual(vars(caught.exception), {"number": number})
            self.assertEqual(all_told_by(fold), before)

    def test_at_each_place(self):
        for thing in self.NO_DEEDS:
            fold = Fold(ROW)
            self.assert_bad(fold, [thing], 0)
            self.assert_bad(fold, [("settle",), ("feed", 0, 1), thing], 2)
            self.assert_bad(fold, (("settle",), thing, ("unsettle",)), 1)

    def test_ahead_of_all_refusals(self):
        fold = Fold(ROW)
        self.assert_bad(fold, [("leave", 77), ("overtake", 0), ("come", 1, 1, 99), ("undo",)], 3)
        self.assert_bad(Fold(stair(24)), [("come", 1, 1, None), None], 1)

    def test_the_first_of_several(self):
        self.assert_bad(Fold(ROW), [("settle",), None, ("undo",), []], 1)

    def test_what_was_done_ahead_stands(self):
        fold = Fold(ROW)
        fold.do([("settle",)])
        self.assert_bad(fold, [("unsettle",), ("undo",)], 1)
        self.assertEqual(fold.log(), [("in", 1), ("out", 1)])
        self.assertEqual(fold.deeds(), 1)


class Log(FoldCase):
    def test_of_refused_and_undone_dos(self):
        fold = Fold(ROW)
        self.assertEqual(fold.log(), [])
        fold.settle()
        self.assertEqual(fold.log(), [])
        fold.do([("unsettle",), ("feed", 0, 1)])
        fold.undo()
        fold.undo()
        with self.assertRaises(NoBeast):
            fold.do([("settle",), ("feed", 0, 1), ("leave", 9), ("settle",)])
        with self.assertRaises(MayNot):
            fold.do([("overtake", 1)], whole=False)
        with self.assertRaises(BadDeed):
            fold.do([("settle",), ("undo",)])
        fold.do([])
        self.assertEqual(
            repr(fold.log()),
            repr([("in", 2), ("out", 2), ("in", 4), ("out", 2), ("in", 1), ("out", 0), ("in", 0), ("out", 0)]),
        )
        while fold.undo():
            pass
        self.assertEqual(len(fold.log()), 8)

    def test_has_both_ends_behind_drawn_dos(self):
        draw = random.Random(61)
        fold, want = Fold(ROW), []
        for step in range(120):
            deeds = [drawn_deed(draw, fold) for deed in range(draw.randint(0, 6))]
            if draw.random() < 0.2:
                deeds.insert(draw.randint(0, len(deeds)), ("undo",))
            whole = draw.random() < 0.5
            trial, done = fold.twin(), 0
            try:
                for deed in deeds:
                    do_deed(trial, deed)
                    done += 1
            except REFUSALS:
                pass
            try:
                fold.do(deeds, whole=whole)
            except BadDeed:
                self.assertIn(("undo",), deeds)
                continue
            except REFUSALS:
                self.assertLess(done, len(deeds))
            want += [("in", len(deeds)), ("out", done)]
            self.assertEqual(fold.log(), want)
            while fold.deeds() > 40:
                fold.undo()


class Twin(FoldCase):
    def test_the_same(self):
        fold = Fold(ROW)
        fold.do([("settle",), ("come", 3, 3, 0), ("leave", 2)])
        twin = fold.twin()
        self.assertIsInstance(twin, Fold)
        self.assertIsNot(twin, fold)
        self.assertIs(twin == fold, True)
        self.assertEqual(told_by(twin), told_by(fold))
        self.assertEqual((twin.deeds(), twin.log()), (3, []))
        self.assertEqual(fold.log(), [("in", 3), ("out", 3)])

    def test_goes_on_alone(self):
        fold = Fold(ROW)
        fold.do([("settle",), ("come", 3, 3, 0)])
        before = all_told_by(fold)
        twin = fold.twin()
        twin.do([("unsettle",), ("leave", 0), ("feed", 4, 9)])
        self.assertEqual(all_told_by(fold), before)
        behind = all_told_by(twin)
        fold.leave(1)
        fold.undo()
        fold.undo()
        fold.undo()
        fold.do([("ask", 0, 3)])
        self.assertEqual(all_told_by(twin), behind)

    def test_undoes_what_its_fold_could(self):
        fold = Fold(ROW)
        told = [told_by(fold)]
        for deed in (("settle",), ("come", 3, 3, 0), ("leave", 2), ("ask", 0, 8), ("unsettle",)):
            do_deed(fold, deed)
            told.append(told_by(fold))
        twin = fold.twin()
        while len(told) > 1:
            told.pop()
            self.assertIs(twin.undo(), True)
            self.assertEqual(told_by(twin), told[-1])
        self.assertIs(twin.undo(), False)
        self.assertEqual(fold.deeds(), 5)
        # Names go on as they would have in its fold.
        self.assertEqual((twin.come(1, 1), fold.come(1, 1)), (4, 5))
        self.assertEqual(Fold(()).twin().come(1, 1), 0)

    def test_names_of_those_who_left(self):
        fold = Fold(ROW)
        fold.leave(3)
        self.assertEqual(fold.twin().come(1, 1), 4)

    def test_of_a_twin(self):
        fold = Fold(ROW)
        fold.settle()
        self.assertEqual(told_by(fold.twin().twin()), told_by(fold))
        self.assertEqual(fold.twin().twin().deeds(), 1)


class Equal(FoldCase):
    def assert_equal(self, one, other, so):
        self.assertIs(one == other, so)
        self.assertIs(other == one, so)
        self.assertIs(one != other, not so)

    def test_the_same(self):
        for row in list(drawn_rows()) + [()]:
            self.assert_equal(Fold(row), Fold(row), True)
        fold = Fold(ROW)
        self.assert_equal(fold, fold, True)

    def test_by_other_deeds(self):
        one, other = Fold(ROW), Fold(ROW)
        one.do([("feed", 0, 1), ("feed", 0, -1)])
        self.assert_equal(one, other, True)
        one.settle()
        for name in (1, 3, 3):
            other.overtake(name)
        self.assert_equal(one, other, True)
        # Another one of the same names and numbers came and left.
        other.come(1, 1)
        other.leave(4)
        self.assert_equal(one, other, True)
        self.assertEqual((one.come(1, 1), other.come(1, 1)), (4, 5))
        self.assert_equal(one, other, False)

    def test_not_the_same(self):
        fold = Fold(ROW)
        for other in (Fold(ROW[:3]), Fold(()), Fold(ROW[::-1]), Fold(ROW[:3] + ((9, 5),)), Fold(ROW[:3] + ((8, 4),))):
            self.assert_equal(fold, other, False)

    def test_other_names(self):
        fold, other = Fold(((5, 1), (5, 1))), Fold(((5, 1),))
        other.come(5, 1, place=0)
        self.assertEqual(fold.row(), other.row())
        self.assert_equal(fold, other, False)

    def test_other_pay(self):
        # The same row of the same names, in one of which 3 were paid.
        fold, other = Fold(((0, 3), (20, 1))), Fold(((0, 3), (20, 1)))
        fold.do([("ask", 0, 0), ("settle",), ("ask", 0, 3)])
        other.do([("settle",), ("feed", 1, 3)])
        self.assertEqual((fold.row(), fold.names()), (other.row(), other.names()))
        self.assertEqual((fold.paid(1), other.paid(1)), (0, 3))
        self.assert_equal(fold, other, False)

    def test_things_of_other_kinds(self):
        fold = Fold(ROW)
        for thing in NO_THINGS + (ROW, list(ROW), Fold, Plain(ROW), fold.names(), 4, {}, object()):
            self.assert_equal(fold, thing, False)
        for thing in ((), [], None, 0, False, ""):
            self.assert_equal(Fold(()), thing, False)


class Told(FoldCase):
    def test_told_lists_changed(self):
        fold = Fold(((9, 0), (1, 0), (30, 2)))
        fold.do([("come", 3, 0, 0), ("feed", 0, 1)])
        before = all_told_by(fold)
        for step in range(2):
            for ask in (fold.names, fold.may_pass, fold.may_fall, fold.last_names, fold.log):
                told = ask()
                self.assertIs(type(told), list)
                self.assertIsNot(told, ask())
                told.append(99)
                told.reverse()
                told.clear()
            self.assertEqual(all_told_by(fold), before)
        told = fold.do([("settle",), ("unsettle",)])
        told.clear()
        self.assertEqual(fold.log()[-2:], [("in", 2), ("out", 2)])
        self.assertEqual(fold.deeds(), 4)

    def test_lists_handed_in_and_changed_behind(self):
        fold = Fold(ROW)
        deeds = [("settle",), ("leave", 0)]
        fold.do(deeds)
        self.assertEqual(deeds, [("settle",), ("leave", 0)])
        before = all_told_by(fold)
        deeds.clear()
        self.assertEqual(all_told_by(fold), before)

    def test_asking_changes_nothing(self):
        fold = Fold(ROW)
        fold.do([("settle",), ("come", 3, 0, 0)])
        before = all_told_by(fold)
        for step in range(3):
            self.assertEqual(all_told_by(fold), before)
            self.assertEqual(repr(all_told_by(fold)), repr(before))
            fold.twin()
            len(fold)
            fold == Fold(ROW)
        self.assertIs(fold.undo(), True)


class Promise(FoldCase):
    """A fold tells, behind any deeds, what one made anew tells."""

    def standing(self, fold, stood, deed):
        """Do it, refused or not; told are the deeds that stand then."""
        try:
            do_deed(fold, deed)
        except REFUSALS:
            return stood
        return stood + [deed]

    def test_behind_drawn_deeds(self):
        draw = random.Random(62)
        for number in range(60):
            row = tuple((draw.randint(-9, 30), draw.randint(0, 3)) for beast in range(draw.choice((0, 1, 4, 9, 23))))
            fold, stood = Fold(row), []
            for step in range(40):
                choice = draw.random()
                if choice < 0.2:
                    self.assertIs(fold.undo(), bool(stood))
                    stood = stood[:-1]
                elif choice < 0.4:
                    deeds = [drawn_deed(draw, fold) for deed in range(draw.randint(0, 5))]
                    whole, before = draw.random() < 0.5, fold.deeds()
                    try:
                        fold.do(deeds, whole=whole)
                        stood = stood + deeds
                    except REFUSALS:
                        self.assertTrue(not whole or fold.deeds() == before)
                        stood = stood + deeds[:fold.deeds() - before]
                else:
                    stood = self.standing(fold, stood, drawn_deed(draw, fold))
                if len(stood) > 55:
                    break
            self.assert_as_anew(row, fold, stood)

    def assert_as_anew(self, row, fold, stood):
        anew, plain = Fold(row), Plain(row)
        for deed in stood:
            self.assertEqual(do_deed(anew, deed), plain.do(deed))
        self.assertIs(fold == anew, True)
        self.assertEqual(told_by(fold), told_by(anew))
        self.assertEqual(fold.deeds(), len(stood))
        self.assertEqual(anew.deeds(), len(stood))
        self.assertEqual([beast[0] for beast in plain.beasts], fold.names())
        self.assertEqual(plain.row(), fold.row())
        self.assertEqual([beast[3] for beast in plain.beasts], [fold.paid(name) for name in fold.names()])
        # The next one is called the same in both.
        if len(fold) < 24:
            self.assertEqual(fold.come(0, 0), anew.come(0, 0))


if __name__ == "__main__":
    unittest.main()
