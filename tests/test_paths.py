import inspect
import itertools
import unittest

from overfold import paths
from overfold.paths import is_beneath, is_name, moved_path, parent_of, path_in, path_text, path_up_to

EIGHT = ("a", "bb", "ccc", "dddd", "eeeee", "ffffff", "ggggggg", "hhhhhhhh")
SOME = [(), ("a",), ("ab",), ("b",), ("a", "b"), ("ab", "b"), ("a", "b", "c"), ("b", "a"), ("a", "a")]


class Interface(unittest.TestCase):
    def test_names_and_arguments(self):
        told = {"is_name": ["word"], "path_text": ["path"], "path_in": ["text"], "parent_of": ["path"],
                "is_beneath": ["path", "other"], "moved_path": ["path", "old", "new"]}
        for name, arguments in told.items():
            self.assertEqual(list(inspect.signature(getattr(paths, name)).parameters), arguments)


class IsName(unittest.TestCase):
    def test_one_to_eight_small_letters(self):
        for word in ["a", "z", "m", "ab", "shelf", "zzzzzzz", "abcdefgh", "zyxwvuts"]:
            self.assertIs(is_name(word), True, word)

    def test_every_small_letter(self):
        for letter in "abcdefghijklmnopqrstuvwxyz":
            self.assertIs(is_name(letter), True, letter)

    def test_too_short_or_too_long(self):
        for word in ["", "abcdefghi", "a" * 9, "a" * 16, "a" * 1000]:
            self.assertIs(is_name(word), False, word)

    def test_other_signs_alone(self):
        small = "abcdefghijklmnopqrstuvwxyz"
        for number in range(0x250):
            if chr(number) not in small:
                self.assertIs(is_name(chr(number)), False, repr(chr(number)))

    def test_other_signs_among_letters(self):
        for sign in "AZ09/ \t\n\r._-%`{\0\u00e9\u00df\u0430\u03b1\u0131\u017f\u1d43\uff41":
            for word in [sign + "abc", "a" + sign + "c", "abc" + sign]:
                self.assertIs(is_name(word), False, repr(word))

    def test_line_end_behind_a_good_name(self):
        self.assertIs(is_name("abc\n"), False)
        self.assertIs(is_name("abcdefgh\n"), False)


class PathText(unittest.TestCase):
    def test_root(self):
        self.assertEqual(path_text(()), "/")

    def test_stroke_ahead_of_each_name(self):
        self.assertEqual(path_text(("a",)), "/a")
        self.assertEqual(path_text(("ab", "c")), "/ab/c")
        self.assertEqual(path_text(EIGHT), "/a/bb/ccc/dddd/eeeee/ffffff/ggggggg/hhhhhhhh")

    def test_nine_names_as_a_gone_row_may_have(self):
        self.assertEqual(path_text(("a",) * 9), "/a/a/a/a/a/a/a/a/a")


class PathIn(unittest.TestCase):
    def test_root(self):
        self.assertEqual(path_in("/"), ())

    def test_names(self):
        self.assertEqual(path_in("/a"), ("a",))
        self.assertEqual(path_in("/ab/c"), ("ab", "c"))

    def test_there_and_back(self):
        for length in range(9):
            path = EIGHT[:length]
            self.assertEqual(path_in(path_text(path)), path)
            self.assertEqual(path_text(path_in(path_text(path))), path_text(path))

    def test_is_a_tuple_of_texts(self):
        for text in ["/", "/a", "/a/b"]:
            path = path_in(text)
            self.assertIs(type(path), tuple)
            self.assertEqual([type(name) for name in path], [str] * len(path))

    def test_same_question_is_told_the_same(self):
        self.assertEqual(path_in("/a/b"), path_in("/a/b"))

    def test_no_path(self):
        nine_names = "/a" * 9
        for text in ["", "a", "a/b", "a/", "/a/", "/a/b/", "//", "///", "//a", "/a//b", "/a//", " ", " /a", "/ a",
                     "/a ", "/a /b", "/a/ b", "/A", "/a/B", "/a1", "/0", "/a.b", "/.", "/..", "/a\n", "\n", "/\n",
                     "/a/b\n", "\n/a", "/abcdefghi", "/a/abcdefghi/b", "/\u00e9", "/a\\b", "\\a", "/a/-", nine_names,
                     "/a" * 10, nine_names + "/", "/a" * 8 + "/"]:
            self.assertIsNone(path_in(text), repr(text))


class ParentOf(unittest.TestCase):
    def test_root_of_root(self):
        self.assertEqual(parent_of(()), ())

    def test_path_without_its_last_name(self):
        self.assertEqual(parent_of(("a",)), ())
        self.assertEqual(parent_of(("a", "b")), ("a",))
        self.assertEqual(parent_of(EIGHT), EIGHT[:7])

    def test_is_a_tuple(self):
        for path in SOME:
            self.assertIs(type(parent_of(path)), tuple)


class IsBeneath(unittest.TestCase):
    def test_shorter_and_its_beginning(self):
        self.assertIs(is_beneath(("a", "b"), ("a",)), True)
        self.assertIs(is_beneath(("a", "b", "c"), ("a",)), True)
        self.assertIs(is_beneath(("a", "b", "c"), ("a", "b")), True)

    def test_not_the_other_way_round(self):
        self.assertIs(is_beneath(("a",), ("a", "b")), False)
        self.assertIs(is_beneath((), ("a",)), False)

    def test_not_a_path_and_itself(self):
        for path in SOME + [EIGHT]:
            self.assertIs(is_beneath(path, path), False)

    def test_all_but_the_root_are_beneath_the_root(self):
        for path in SOME + [EIGHT]:
            self.assertIs(is_beneath(path, ()), path != ())

    def test_names_count_not_letters(self):
        self.assertIs(is_beneath(("ab",), ("a",)), False)
        self.assertIs(is_beneath(("a",), ("ab",)), False)
        self.assertIs(is_beneath(("ab", "c"), ("a",)), False)

    def test_another_beginning(self):
        self.assertIs(is_beneath(("a", "b", "c"), ("a", "c")), False)
        self.assertIs(is_beneath(("b", "a"), ("a",)), False)

    def test_is_told_by_beginnings(self):
        for path, other in itertools.product(SOME, SOME):
            beginnings = [path[:length] for length in range(len(path))]
            self.assertIs(is_beneath(path, other), other in beginnings)


class MovedPath(unittest.TestCase):
    def test_old_itself(self):
        self.assertEqual(moved_path(("a",), ("a",), ("b", "c")), ("b", "c"))
        self.assertEqual(moved_path(("a", "b"), ("a", "b"), ("c",)), ("c",))

    def test_beneath_old(self):
        self.assertEqual(moved_path(("a", "x"), ("a",), ("b", "c")), ("b", "c", "x"))
        self.assertEqual(moved_path(("a", "x", "y"), ("a", "x"), ("b",)), ("b", "y"))

    def test_new_beneath_old_and_old_beneath_new(self):
        self.assertEqual(moved_path(("a", "x"), ("a",), ("a", "b")), ("a", "b", "x"))
        self.assertEqual(moved_path(("a", "b", "x"), ("a", "b"), ("a",)), ("a", "x"))

    def test_old_is_new(self):
        self.assertEqual(moved_path(("a", "x"), ("a",), ("a",)), ("a", "x"))

    def test_all_else_is_path_itself(self):
        for path in [(), ("b",), ("ab",), ("ab", "a"), ("b", "a"), ("x", "a", "y")]:
            self.assertEqual(moved_path(path, ("a",), ("n",)), path)
        self.assertEqual(moved_path(("a",), ("a", "b"), ("n",)), ("a",))

    def test_only_the_beginning_is_changed(self):
        self.assertEqual(moved_path(("a", "a", "a"), ("a",), ("b",)), ("b", "a", "a"))

    def test_old_is_the_root(self):
        self.assertEqual(moved_path((), (), ("n",)), ("n",))
        self.assertEqual(moved_path(("a", "b"), (), ("n", "m")), ("n", "m", "a", "b"))

    def test_new_is_the_root(self):
        self.assertEqual(moved_path(("a",), ("a",), ()), ())
        self.assertEqual(moved_path(("a", "b"), ("a",), ()), ("b",))
        self.assertEqual(moved_path(("b",), ("a",), ()), ("b",))

    def test_both_are_the_root(self):
        self.assertEqual(moved_path(("a", "b"), (), ()), ("a", "b"))
        self.assertEqual(moved_path((), (), ()), ())

    def test_more_than_eight_names(self):
        self.assertEqual(moved_path(EIGHT, ("a",), ("x", "y")), ("x", "y") + EIGHT[1:])
        self.assertEqual(moved_path(EIGHT, (), EIGHT), EIGHT + EIGHT)

    def test_is_a_tuple(self):
        for path, old, new in itertools.product(SOME, SOME, SOME):
            self.assertIs(type(moved_path(path, old, new)), tuple)


class Order(unittest.TestCase):
    def test_root_is_least_and_a_folder_stands_ahead_of_what_is_beneath(self):
        texts = ["/b", "/ab", "/a/b", "/", "/a/b/c", "/a"]
        self.assertEqual([path_text(path) for path in sorted([path_in(text) for text in texts])],
                         ["/", "/a", "/a/b", "/a/b/c", "/ab", "/b"])


class PathUpTo(unittest.TestCase):
    def test_as_many_names_as_told(self):
        for most in [1, 8, 9]:
            self.assertEqual(path_up_to("/a" * most, most), ("a",) * most)
            self.assertIsNone(path_up_to("/a" * (most + 1), most))
            self.assertEqual(path_up_to("/", most), ())

    def test_what_writes_no_path(self):
        for text in ["", "a", "/a/", "//", "/a//b", "/A", "/abcdefghi"]:
            self.assertIsNone(path_up_to(text, 9), text)


if __name__ == "__main__":
    unittest.main()
