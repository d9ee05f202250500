import unittest

from overfold.errors import TooLong
from overfold.texts import cut_text, is_text, number_in, put_text
from shelf_help import SIGNS


class Signs(unittest.TestCase):
    def test_every_sign_of_a_text(self):
        self.assertEqual(len(SIGNS), 94)
        for sign in SIGNS:
            self.assertIs(is_text(sign), True, sign)
            self.assertIs(is_text("ab" + sign + "c"), True, sign)

    def test_no_other_sign(self):
        for number in list(range(32)) + [37] + list(range(127, 700)) + [0x2028, 0xff41, 0x1d7d8]:
            self.assertIs(is_text(chr(number)), False, number)
            self.assertIs(is_text("ab" + chr(number) + "c"), False, number)

    def test_length(self):
        self.assertIs(is_text(""), True)
        self.assertIs(is_text("a" * 200), True)
        self.assertIs(is_text("a" * 201), False)


class Putting(unittest.TestCase):
    def test_within(self):
        self.assertEqual(put_text("abcdef", 2, "XY"), "abXYef")
        self.assertEqual(put_text("abcdef", 0, "XY"), "XYcdef")
        self.assertEqual(put_text("abcdef", 4, "XY"), "abcdXY")

    def test_over_the_end(self):
        self.assertEqual(put_text("abcdef", 5, "XYZ"), "abcdeXYZ")
        self.assertEqual(put_text("abc", 0, "VWXYZ"), "VWXYZ")

    def test_at_and_behind_the_end(self):
        self.assertEqual(put_text("abc", 3, "X"), "abcX")
        self.assertEqual(put_text("abc", 5, "X"), "abc  X")
        self.assertEqual(put_text("", 2, "X"), "  X")

    def test_an_empty_text(self):
        self.assertEqual(put_text("abc", 1, ""), "abc")
        self.assertEqual(put_text("abc", 3, ""), "abc")
        self.assertEqual(put_text("abc", 5, ""), "abc  ")
        self.assertEqual(put_text("", 0, ""), "")
        self.assertEqual(put_text("", 200, ""), " " * 200)

    def test_lengths(self):
        for size in range(6):
            for place in range(8):
                for length in range(5):
                    told = put_text("a" * size, place, "X" * length)
                    self.assertEqual(len(told), max(size, place + length))
                    self.assertEqual(told[place:place + length], "X" * length)

    def test_two_hundred_signs_and_one_more(self):
        self.assertEqual(put_text("", 100, "X" * 100), " " * 100 + "X" * 100)
        self.assertEqual(put_text("a" * 200, 199, "X"), "a" * 199 + "X")
        for old, place, text in [("", 101, "X" * 100), ("a" * 200, 200, "X"), ("", 200, "X"), ("", 0, "X" * 201)]:
            with self.assertRaises(TooLong):
                put_text(old, place, text)


class Cutting(unittest.TestCase):
    def test_shorter_longer_and_as_it_is(self):
        self.assertEqual(cut_text("abcdef", 2), "ab")
        self.assertEqual(cut_text("abcdef", 0), "")
        self.assertEqual(cut_text("abcdef", 6), "abcdef")
        self.assertEqual(cut_text("abcdef", 9), "abcdef   ")
        self.assertEqual(cut_text("", 3), "   ")
        self.assertEqual(cut_text("", 200), " " * 200)


class Numbers(unittest.TestCase):
    def test_plain_figures(self):
        for number in [0, 1, 9, 10, 99, 100, 198, 199]:
            self.assertEqual(number_in(str(number), 199), number)
        self.assertEqual(number_in("1000000", 10 ** 6), 10 ** 6)

    def test_above_the_bound(self):
        for text in ["200", "201", "999", "1000", "9" * 5000]:
            self.assertIsNone(number_in(text, 199), text[:9])
        self.assertIsNone(number_in("1000001", 10 ** 6))

    def test_a_nought_ahead(self):
        for text in ["00", "01", "000", "007", "0199"]:
            self.assertIsNone(number_in(text, 199), text)

    def test_no_other_sign_is_a_figure(self):
        for sign in SIGNS:
            self.assertEqual(number_in(sign, 199), int(sign) if sign in "0123456789" else None, sign)

    def test_other_signs(self):
        for text in ["", " ", " 1", "1 ", "+1", "-1", "-0", "1_0", "1.", "a", "0x1", "\u00b2", "\u0663", "1\n"]:
            self.assertIsNone(number_in(text, 199), repr(text))


if __name__ == "__main__":
    unittest.main()
