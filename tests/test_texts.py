import random
import unittest

from hayherd.errors import BadText
from hayherd.rows import is_row
from hayherd.texts import row_in, row_text
from tests.helper import FAR, all_rows

BEASTS = ("5:1", "7:2", "3:0", "9:4")
# None of these is a beast's text, though some look like one.
NO_WORDS = (
    "", ":", "5", "5:", ":1", "-", "-:1", "5:1:2", "5::1", ":5:1", "5:1:", "-0:1", "-00:1", "--5:1", "5-:1", "-5-:1",
    "05:1", "00:1", "-05:1", "5:01", "5:00", "5:-1", "5:-0", "+5:1", "5:+1", "5:1-", "5,1", "5;1", "(5,1)", "a:1",
    "5:a", "5a:1", "a5:1", "5:1a", "0x5:1", "5.0:1", "5:1.0", "5e1:1", "1_0:1", "5:1_0", "\t5:1", "5:1\t", "5:1\n",
    "\n5:1", "\n", "5\n:1", "5:1\n7:2", "5:1\r", "~", "None:1", "True:1",
    "\u0665:1", "5:\u0661", "\u00b2:1", "5:\u00b9", "\uff15:1", "\u22125:1", "5\u00a0:1", "\u00a05:1",
)


class RowText(unittest.TestCase):
    def test_by_hand(self):
        self.assertEqual(row_text(((5, 1), (7, 2), (3, 0), (9, 4))), "5:1 7:2 3:0 9:4")
        self.assertEqual(row_text(((-5, 0),)), "-5:0")
        self.assertEqual(row_text(((0, 0), (-10, 100))), "0:0 -10:100")
        self.assertEqual(row_text(((-FAR, 10 ** 9), (FAR, 0))), "-1000000000000:1000000000 1000000000000:0")

    def test_against_pythons_own_writing(self):
        for row in all_rows():
            text = row_text(row)
            self.assertIs(type(text), str)
            self.assertEqual(text, " ".join(f"{strength}:{toll}" for strength, toll in row))

    def test_numbers_around_each_count_of_figures(self):
        for figures in list(range(45)) + [299, 300, 999, 1000, 1001]:
            for number in (10 ** figures - 1, 10 ** figures, 10 ** figures + 1, 7 * 10 ** figures):
                self.assertEqual(row_text(((number, number),)), f"{number}:{number}")
                self.assertEqual(row_text(((-number, 0),)), f"{-number}:0")

    def test_numbers_that_python_does_not_write(self):
        self.assertEqual(row_text(((10 ** 5000, 0),)), "1" + "0" * 5000 + ":0")
        self.assertEqual(row_text(((-(10 ** 5000 - 1), 0),)), "-" + "9" * 5000 + ":0")


class RowIn(unittest.TestCase):
    def assert_bad(self, text, at):
        with self.assertRaises(BadText) as caught:
            row_in(text)
        self.assertEqual(vars(caught.exception), {"at": at}, repr(text))

    def test_by_hand(self):
        self.assertEqual(row_in("5:1 7:2 3:0 9:4"), ((5, 1), (7, 2), (3, 0), (9, 4)))
        self.assertEqual(row_in("-5:0"), ((-5, 0),))
        self.assertEqual(row_in("0:0"), ((0, 0),))
        self.assertEqual(row_in("10:100 -10:0"), ((10, 100), (-10, 0)))

    def test_there_and_back(self):
        for row in all_rows():
            told = row_in(row_text(row))
            self.assertIs(is_row(told), True)
            self.assertEqual(repr(told), repr(row))

    def test_numbers_of_any_size(self):
        draw = random.Random(16)
        for figures in list(range(1, 45)) + [299, 300, 1000, 4000]:
            word = draw.choice("123456789") + "".join(draw.choice("0123456789") for step in range(figures - 1))
            self.assertEqual(row_in(f"{word}:{word}"), ((int(word), int(word)),))
            self.assertEqual(row_in(f"-{word}:0"), ((-int(word), 0),))
            self.assertEqual(row_text(row_in(f"-{word}:{word}")), f"-{word}:{word}")

    def test_numbers_that_python_does_not_read(self):
        self.assertEqual(row_in("1" + "0" * 5000 + ":0"), ((10 ** 5000, 0),))
        self.assertEqual(row_in("-" + "9" * 5000 + ":" + "9" * 4999), ((1 - 10 ** 5000, 10 ** 4999 - 1),))
        self.assert_bad("0" + "9" * 5000 + ":0", 0)
        self.assert_bad("9" * 5000 + "a:0", 0)

    def test_words_that_are_not_so_written(self):
        for word in NO_WORDS:
            self.assert_bad(word, 0)
            for at in range(5):
                words = list(BEASTS)
                words.insert(at, word)
                self.assert_bad(" ".join(words), at)

    def test_each_sign_in_place_of_a_figure(self):
        for sign in [chr(code) for code in range(33, 127)]:
            if sign not in "0123456789":
                for word in (f"5{sign}:1", f"5{sign}5:1", f"5:1{sign}", f"5:{sign}1", f"5:{sign}", f"{sign}:1"):
                    self.assert_bad(f"7:2 {word}", 1)

    def test_empty_words(self):
        self.assert_bad("", 0)
        self.assert_bad(" ", 0)
        self.assert_bad("  ", 0)
        self.assert_bad(" 5:1", 0)
        self.assert_bad("5:1 ", 1)
        self.assert_bad("5:1  7:2", 1)
        self.assert_bad("5:1 7:2  ", 2)

    def test_the_first_of_several(self):
        self.assert_bad("5:1 a 7:2 b", 1)
        self.assert_bad("5:1 7:2 5:-1  x", 2)
        self.assert_bad("x  ", 0)

    def test_a_line_feed_parts_no_words(self):
        self.assert_bad("5:1\n7:2", 0)
        self.assert_bad("5:1 7:2\n", 1)
        self.assert_bad("\n5:1 7:2", 0)
        self.assert_bad("5:1 \n 7:2", 1)

    def test_all_short_texts(self):
        signs = "-0:1 "
        texts = [""]
        for length in range(6):
            for text in texts:
                self.assert_read_or_refused(text)
            texts = [text + sign for text in texts for sign in signs]

    def assert_read_or_refused(self, text):
        # Told another way: a word is so written just where Python writes what it reads in the same way.
        for at, word in enumerate(text.split(" ")):
            try:
                strength, toll = [int(part) for part in word.split(":")]
                right = f"{strength}:{toll}" == word and toll >= 0
            except ValueError:
                right = False
            if not right:
                self.assert_bad(text, at)
                return
        self.assertEqual(row_text(row_in(text)), text)


if __name__ == "__main__":
    unittest.main()
