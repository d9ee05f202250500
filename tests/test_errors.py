import unittest

from overfold import errors
from overfold.errors import BadLayer, BadRow, NoFit, ShelfError

PLAIN = ["NoThing", "WrongKind", "Within", "Taken", "NotEmpty", "TooLong", "TooDeep", "NoHandle", "NoRoom"]
WITH_FIELD = {"BadLayer": "row", "NoFit": "number", "BadRow": "row"}
ALL = PLAIN + list(WITH_FIELD)


def made(word):
    kind = getattr(errors, word)
    return kind("some words", 7) if word in WITH_FIELD else kind("some words")


class EveryRefusal(unittest.TestCase):
    def test_twelve_and_shelf_error_are_all_there_is(self):
        found = [word for word, value in vars(errors).items() if isinstance(value, type)]
        self.assertEqual(sorted(found), sorted(ALL + ["ShelfError"]))

    def test_is_taken_by_shelf_error(self):
        for word in ALL:
            with self.subTest(word), self.assertRaises(ShelfError):
                raise made(word)

    def test_is_taken_by_value_error(self):
        for word in ALL:
            with self.subTest(word), self.assertRaises(ValueError):
                raise made(word)

    def test_is_taken_by_itself_and_by_none_of_the_others(self):
        for word in ALL:
            taken_by = [other for other in ALL if isinstance(made(word), getattr(errors, other))]
            self.assertEqual(taken_by, [word])

    def test_stands_straight_under_shelf_error(self):
        for word in ALL:
            self.assertEqual(getattr(errors, word).__bases__, (ShelfError,), word)

    def test_is_called_by_its_own_word(self):
        for word in ALL:
            self.assertEqual(getattr(errors, word).__name__, word)

    def test_bears_its_words(self):
        for word in ALL:
            self.assertEqual(str(made(word)), "some words")


class TheShelfError(unittest.TestCase):
    def test_stands_straight_under_value_error(self):
        self.assertEqual(ShelfError.__bases__, (ValueError,))

    def test_is_taken_by_none_of_the_twelve(self):
        for word in ALL:
            self.assertNotIsInstance(ShelfError("some words"), getattr(errors, word))


class Fields(unittest.TestCase):
    def test_bad_layer_bears_its_row(self):
        for number in (0, 1, 400):
            self.assertEqual(BadLayer("some words", number).row, number)

    def test_no_fit_bears_its_number(self):
        for number in (0, 1, 6):
            self.assertEqual(NoFit("some words", number).number, number)

    def test_bad_row_bears_its_row(self):
        for number in (0, 1, 400):
            self.assertEqual(BadRow("some words", number).row, number)

    def test_each_object_has_its_own(self):
        first = BadRow("some words", 1)
        second = BadRow("some words", 2)
        self.assertEqual((first.row, second.row), (1, 2))

    def test_field_is_there_when_raised(self):
        for word, field in WITH_FIELD.items():
            with self.assertRaises(getattr(errors, word)) as caught:
                raise made(word)
            self.assertEqual(getattr(caught.exception, field), 7)

    def test_field_is_asked_for(self):
        for word in WITH_FIELD:
            with self.assertRaises(TypeError):
                getattr(errors, word)("some words")


if __name__ == "__main__":
    unittest.main()
