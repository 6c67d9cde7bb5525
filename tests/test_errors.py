import unittest

from hayherd import errors

# class, the class it stands straight under, its field
CLASSES = (
    ("NotKept", ValueError, "pair"),
    ("BadText", ValueError, "at"),
    ("BadRow", ValueError, "number"),
    ("BadDeed", ValueError, "number"),
    ("NoOrder", LookupError, "number"),
    ("NoWay", LookupError, "number"),
    ("NoBeast", LookupError, "name"),
    ("NoPlace", LookupError, "place"),
    ("MayNot", RuntimeError, "place"),
    ("NotLet", RuntimeError, "number"),
    ("Full", OverflowError, "many"),
)


class Errors(unittest.TestCase):
    # Python writes no number of so many figures as the last one has.
    def values(self, field):
        return ((0, 1), (3, 17)) if field == "pair" else (0, 24, -5, 10 ** 30, -(10 ** 5000))

    def test_all_eleven_are_there(self):
        self.assertEqual(len({getattr(errors, name) for name, base, field in CLASSES}), 11)

    def test_made_by_place(self):
        for name, base, field in CLASSES:
            for value in self.values(field):
                with self.subTest(name=name):
                    self.assertEqual(getattr(getattr(errors, name)(value), field), value)

    def test_made_by_name(self):
        for name, base, field in CLASSES:
            for value in self.values(field):
                with self.subTest(name=name):
                    self.assertEqual(getattr(getattr(errors, name)(**{field: value}), field), value)

    def test_the_field_is_what_was_handed_in(self):
        self.assertIs(type(errors.NotKept((0, 1)).pair), tuple)
        self.assertIs(type(errors.Full(24).many), int)

    def test_two_made_have_each_their_own(self):
        one, other = errors.MayNot(1), errors.MayNot(2)
        self.assertEqual((one.place, other.place), (1, 2))

    def test_wants_just_its_field(self):
        for name, base, field in CLASSES:
            with self.subTest(name=name):
                with self.assertRaises(TypeError):
                    getattr(errors, name)()
                with self.assertRaises(TypeError):
                    getattr(errors, name)(1, 2)

    def test_straight_under_its_base(self):
        for name, base, field in CLASSES:
            with self.subTest(name=name):
                self.assertEqual(getattr(errors, name).__bases__, (base,))

    def test_none_under_another(self):
        for name, base, field in CLASSES:
            for other, other_base, other_field in CLASSES:
                if name != other:
                    with self.subTest(name=name, other=other):
                        self.assertFalse(issubclass(getattr(errors, name), getattr(errors, other)))

    def test_raised_and_caught_by_its_base(self):
        for name, base, field in CLASSES:
            with self.subTest(name=name):
                with self.assertRaises(base) as caught:
                    raise getattr(errors, name)(3)
                self.assertEqual(getattr(caught.exception, field), 3)
                self.assertIsInstance(str(caught.exception), str)


if __name__ == "__main__":
    unittest.main()
