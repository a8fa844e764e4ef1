import unittest

from stow import errors
from stow.errors import StowError

OF_A_TEXT = (
    "NoName", "NoSize", "NoGive", "NoHandle", "NoPiece", "NoCell",
    "NoAsk", "NoBound", "NoRoom", "NoLine", "NoTurn",
)
OF_A_FIELD = (("Broken", "cell"), ("BadLine", "line"))
ALL = OF_A_TEXT + tuple(name for name, field in OF_A_FIELD)


def made(name):
    thing = 7 if name in dict(OF_A_FIELD) else "some words"
    return getattr(errors, name)(thing)


class Promise3(unittest.TestCase):
    def test_each_refusal_is_taken_by_its_own_class(self):
        for name in ALL:
            with self.subTest(name), self.assertRaises(getattr(errors, name)):
                raise made(name)

    def test_each_refusal_is_taken_by_the_base(self):
        for name in ALL:
            with self.subTest(name), self.assertRaises(StowError):
                raise made(name)

    def test_each_refusal_is_taken_by_value_error(self):
        for name in ALL + ("StowError",):
            with self.subTest(name), self.assertRaises(ValueError):
                raise made(name)

    def test_no_refusal_is_taken_by_another_ones_class(self):
        for name in ALL:
            for other in ALL:
                if other != name:
                    with self.subTest(name=name, other=other):
                        self.assertNotIsInstance(made(name), getattr(errors, other))

    def test_each_refusal_stands_right_under_the_base(self):
        for name in ALL:
            with self.subTest(name):
                self.assertEqual(getattr(errors, name).__bases__, (StowError,))
        self.assertEqual(StowError.__bases__, (ValueError,))

    def test_there_are_no_other_refusals(self):
        classes = [name for name, thing in vars(errors).items() if isinstance(thing, type)]
        self.assertEqual(sorted(classes), sorted(ALL + ("StowError",)))

    def test_those_of_a_text_tell_it(self):
        for name in OF_A_TEXT + ("StowError",):
            with self.subTest(name):
                self.assertEqual(str(getattr(errors, name)("some words")), "some words")

    def test_the_fields_hold_what_they_were_made_of(self):
        for name, field in OF_A_FIELD:
            for thing in (0, 1, 399, 10 ** 60, None):
                with self.subTest(name=name, thing=thing):
                    with self.assertRaises(getattr(errors, name)) as taken:
                        raise getattr(errors, name)(thing)
                    self.assertEqual(getattr(taken.exception, field), thing)

    def test_the_fields_are_each_refusals_own(self):
        for name, field in OF_A_FIELD:
            with self.subTest(name):
                first, second = getattr(errors, name)(3), getattr(errors, name)(4)
                self.assertEqual((getattr(first, field), getattr(second, field)), (3, 4))

    def test_those_of_a_field_are_made_of_just_one_thing(self):
        for name, field in OF_A_FIELD:
            with self.subTest(name):
                self.assertRaises(TypeError, getattr(errors, name))
                self.assertRaises(TypeError, getattr(errors, name), 1, 2)


if __name__ == "__main__":
    unittest.main()
