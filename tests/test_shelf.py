"""The deeds of a shelf by names: what each does."""

import inspect
import unittest

from overfold.shelf import Shelf
from shelf_help import ShelfTest, chain, p, sample, shelf_of, state_of, walk_texts

METHODS = {
    "make_folder": ["path"], "make_file": ["path", "text"], "write": ["path", "text"],
    "put": ["path", "place", "text"], "cut": ["path", "size"], "link": ["path", "other"], "drop": ["path"],
    "move": ["path", "other"], "swap": ["path", "other"], "hold": ["path"], "read_by": ["handle"],
    "write_by": ["handle", "text"], "put_by": ["handle", "place", "text"], "cut_by": ["handle", "size"],
    "count_by": ["handle"], "name_by": ["handle", "other"], "close": ["handle"], "handles": [], "kind_of": ["path"],
    "text_of": ["path"], "names_in": ["path"], "count_of": ["path"], "same_file": ["path", "other"], "walked": []}


class Interface(unittest.TestCase):
    def test_methods_and_their_arguments(self):
        for name, arguments in METHODS.items():
            told = inspect.signature(getattr(Shelf, name)).parameters
            self.assertEqual(list(told), ["self"] + arguments, name)

    def test_a_shelf_is_made_of_nothing(self):
        self.assertEqual(list(inspect.signature(Shelf).parameters), [])

    def test_the_deeds_by_names_tell_nothing(self):
        shelf = shelf_of("/a", "/f =text", "/g =text")
        for call, handed in [
                (shelf.make_folder, (p("/n"),)), (shelf.make_file, (p("/m"), "t")), (shelf.write, (p("/f"), "t")),
                (shelf.put, (p("/f"), 3, "t")), (shelf.cut, (p("/f"), 2)), (shelf.link, (p("/f"), p("/a/f"))),
                (shelf.drop, (p("/a/f"),)), (shelf.move, (p("/f"), p("/a/f"))), (shelf.move, (p("/g"), p("/g"))),
                (shelf.swap, (p("/a/f"), p("/g"))), (shelf.swap, (p("/g"), p("/g")))]:
            self.assertIsNone(call(*handed), call.__name__)


class Making(ShelfTest):
    def test_a_new_shelf_has_the_root_alone(self):
        shelf = Shelf()
        self.assertEqual(shelf.walked(), [])
        self.assertEqual(shelf.names_in(()), [])
        self.assertEqual(shelf.kind_of(()), "folder")
        self.assertEqual(shelf.handles(), [])

    def test_two_shelves_share_nothing(self):
        one, other = Shelf(), Shelf()
        one.make_file(p("/f"), "t")
        one.hold(p("/f"))
        self.assertEqual(state_of(other), state_of(Shelf()))

    def test_a_folder_is_new_and_empty(self):
        shelf = Shelf()
        shelf.make_folder(p("/a"))
        shelf.make_folder(p("/a/b"))
        self.assertEqual(shelf.walked(), [(p("/a"), "folder"), (p("/a/b"), "folder")])
        self.assertEqual(shelf.names_in(p("/a/b")), [])

    def test_a_file_has_its_text(self):
        shelf = shelf_of("/a")
        shelf.make_file(p("/a/f"), "some = text")
        shelf.make_file(p("/g"), "")
        self.assertEqual(walk_texts(shelf), ["/a", "/a/f =some = text", "/g ="])

    def test_files_of_one_text_are_two_files(self):
        shelf = shelf_of("/f =same", "/g =same")
        self.assertIs(shelf.same_file(p("/f"), p("/g")), False)
        shelf.write(p("/f"), "else")
        self.assertEqual(shelf.text_of(p("/g")), "same")

    def test_eight_names(self):
        shelf = shelf_of(*chain("a", 7))
        shelf.make_file(("a",) * 7 + ("f",), "t")
        shelf.make_folder(("a",) * 8)
        shelf.link(("a",) * 7 + ("f",), ("a",) * 7 + ("g",))
        self.assertEqual(shelf.names_in(("a",) * 7), ["a", "f", "g"])

    def test_a_name_that_went_is_free_again(self):
        shelf = shelf_of("/a", "/f =old")
        shelf.drop(p("/a"))
        shelf.make_file(p("/a"), "new")
        shelf.drop(p("/f"))
        shelf.make_folder(p("/f"))
        self.assertEqual(walk_texts(shelf), ["/a =new", "/f"])


class Writing(ShelfTest):
    def test_a_file_with_one_name(self):
        shelf = sample()
        with self.changes(shelf, ["/a/b/f =deep"], ["/a/b/f =written"]):
            shelf.write(p("/a/b/f"), "written")

    def test_a_file_with_several_names_by_each_of_them(self):
        for path in ["/a/g", "/c/g"]:
            shelf = sample()
            with self.changes(shelf, ["/a/g =one", "/c/g -> /a/g =one"], ["/a/g =", "/c/g -> /a/g ="]):
                shelf.write(p(path), "")

    def test_two_hundred_signs(self):
        shelf = sample()
        shelf.write(p("/f"), "~" * 200)
        self.assertEqual(shelf.text_of(p("/x")), "~" * 200)


class Putting(ShelfTest):
    def put(self, old, place, text):
        shelf = shelf_of("/f =" + old, "/g -> /f", "/h =" + old)
        shelf.put(p("/g"), place, text)
        self.assertEqual(shelf.text_of(p("/h")), old)
        self.assertEqual(shelf.text_of(p("/g")), shelf.text_of(p("/f")))
        return shelf.text_of(p("/f"))

    def test_within_the_text(self):
        self.assertEqual(self.put("abcdef", 0, "X"), "Xbcdef")
        self.assertEqual(self.put("abcdef", 2, "XYZ"), "abXYZf")
        self.assertEqual(self.put("abcdef", 3, "XYZ"), "abcXYZ")

    def test_over_its_end(self):
        self.assertEqual(self.put("abcdef", 4, "XYZ"), "abcdXYZ")
        self.assertEqual(self.put("abcdef", 6, "XYZ"), "abcdefXYZ")

    def test_behind_its_end(self):
        self.assertEqual(self.put("abc", 5, "X"), "abc  X")
        self.assertEqual(self.put("", 3, "X"), "   X")

    def test_an_empty_text(self):
        self.assertEqual(self.put("abc", 2, ""), "abc")
        self.assertEqual(self.put("abc", 5, ""), "abc  ")
        self.assertEqual(self.put("abc", 200, ""), "abc" + " " * 197)

    def test_up_to_two_hundred_signs(self):
        self.assertEqual(self.put("abc", 0, "X" * 200), "X" * 200)
        self.assertEqual(self.put("abc", 199, "X"), "abc" + " " * 196 + "X")
        self.assertEqual(self.put("a" * 200, 10, "X"), "a" * 10 + "X" + "a" * 189)


class Cutting(ShelfTest):
    def cut(self, old, size):
        shelf = shelf_of("/f =" + old, "/g -> /f", "/h =" + old)
        shelf.cut(p("/g"), size)
        self.assertEqual(shelf.text_of(p("/h")), old)
        self.assertEqual(shelf.text_of(p("/g")), shelf.text_of(p("/f")))
        return shelf.text_of(p("/f"))

    def test_shorter(self):
        self.assertEqual(self.cut("abcdef", 4), "abcd")
        self.assertEqual(self.cut("abcdef", 0), "")

    def test_as_it_is(self):
        self.assertEqual(self.cut("abcdef", 6), "abcdef")
        self.assertEqual(self.cut("", 0), "")

    def test_longer(self):
        self.assertEqual(self.cut("abcdef", 8), "abcdef  ")
        self.assertEqual(self.cut("", 200), " " * 200)


class Linking(ShelfTest):
    def test_one_more_name(self):
        shelf = sample()
        with self.changes(shelf, [], ["/e/n -> /a/b/f =deep"]):
            shelf.link(p("/a/b/f"), p("/e/n"))
        self.assertEqual(shelf.count_of(p("/a/b/f")), 2)

    def test_a_lesser_name_is_the_first_then(self):
        shelf = shelf_of("/g =t")
        shelf.link(p("/g"), p("/f"))
        self.assertEqual(walk_texts(shelf), ["/f =t", "/g -> /f =t"])

    def test_by_any_of_its_names(self):
        shelf = sample()
        shelf.link(p("/x"), p("/y"))
        shelf.write(p("/y"), "all")
        self.assertEqual([shelf.text_of(p(path)) for path in ["/f", "/x", "/y"]], ["all"] * 3)
        self.assertEqual(shelf.count_of(p("/f")), 3)


class Dropping(ShelfTest):
    def test_a_files_one_name(self):
        shelf = sample()
        with self.changes(shelf, ["/a/b/f =deep"], []):
            shelf.drop(p("/a/b/f"))

    def test_one_of_a_files_names(self):
        shelf = sample()
        with self.changes(shelf, ["/f =top", "/x -> /f =top"], ["/x =top"]):
            shelf.drop(p("/f"))
        self.assertEqual(shelf.count_of(p("/x")), 1)

    def test_an_empty_folder(self):
        shelf = sample()
        with self.changes(shelf, ["/e"], []):
            shelf.drop(p("/e"))

    def test_a_folder_that_was_emptied(self):
        shelf = shelf_of("/a", "/a/f =")
        shelf.drop(p("/a/f"))
        shelf.drop(p("/a"))
        self.assertEqual(shelf.walked(), [])


class Moving(ShelfTest):
    def test_a_file_to_a_new_name(self):
        shelf = sample()
        with self.changes(shelf, ["/a/b/f =deep"], ["/e/n =deep"]):
            shelf.move(p("/a/b/f"), p("/e/n"))

    def test_one_of_a_files_names(self):
        shelf = sample()
        with self.changes(shelf, ["/f =top", "/x -> /f =top"], ["/e/n =top", "/x -> /e/n =top"]):
            shelf.move(p("/f"), p("/e/n"))
        self.assertEqual(shelf.count_of(p("/x")), 2)

    def test_a_folder_with_all_that_is_beneath_it(self):
        shelf = sample()
        shelf.move(p("/a"), p("/e/n"))
        self.assertEqual(walk_texts(shelf), [
            "/c", "/c/g =one", "/e", "/e/n", "/e/n/b", "/e/n/b/f =deep", "/e/n/g -> /c/g =one", "/f =top",
            "/x -> /f =top"])

    def test_over_a_file_which_loses_that_name_alone(self):
        shelf = sample()
        with self.changes(shelf, ["/a/b/f =deep", "/f =top", "/x -> /f =top"], ["/f =deep", "/x =top"]):
            shelf.move(p("/a/b/f"), p("/f"))
        self.assertEqual((shelf.count_of(p("/f")), shelf.count_of(p("/x"))), (1, 1))

    def test_over_a_files_one_name(self):
        shelf = sample()
        with self.changes(shelf, ["/a/b/f =deep", "/f =top", "/x -> /f =top"], ["/a/b/f =top", "/x -> /a/b/f =top"]):
            shelf.move(p("/f"), p("/a/b/f"))

    def test_over_an_empty_folder(self):
        shelf = sample()
        shelf.move(p("/a/b"), p("/e"))
        self.assertEqual(walk_texts(shelf), [
            "/a", "/a/g =one", "/c", "/c/g -> /a/g =one", "/e", "/e/f =deep", "/f =top", "/x -> /f =top"])

    def test_a_folder_out_of_another_one(self):
        shelf = shelf_of("/a", "/a/b", "/a/b/f =t")
        shelf.move(p("/a/b"), p("/b"))
        self.assertEqual(walk_texts(shelf), ["/a", "/b", "/b/f =t"])

    def test_to_itself_nothing_changes(self):
        for path in ["/f", "/x", "/a", "/e", "/a/b", "/c/g"]:
            shelf = sample()
            before = state_of(shelf)
            shelf.move(p(path), p(path))
            self.assertEqual(state_of(shelf), before)

    def test_to_a_name_of_the_same_file_nothing_changes(self):
        for path, other in [("/f", "/x"), ("/x", "/f"), ("/a/g", "/c/g"), ("/c/g", "/a/g")]:
            shelf = sample()
            before = state_of(shelf)
            shelf.move(p(path), p(other))
            self.assertEqual(state_of(shelf), before)

    def test_to_eight_names(self):
        shelf = shelf_of(*chain("a", 7), "/b", "/b/c =t", "/f =u")
        shelf.move(p("/f"), ("a",) * 7 + ("f",))
        shelf.move(p("/b"), ("a",) * 6 + ("b",))
        self.assertEqual(shelf.text_of(("a",) * 7 + ("f",)), "u")
        self.assertEqual(shelf.text_of(("a",) * 6 + ("b", "c")), "t")


class Swapping(ShelfTest):
    def test_two_files(self):
        shelf = sample()
        shelf.swap(p("/f"), p("/a/g"))
        self.assertEqual(walk_texts(shelf), [
            "/a", "/a/b", "/a/b/f =deep", "/a/g =top", "/c", "/c/g =one", "/e", "/f -> /c/g =one",
            "/x -> /a/g =top"])

    def test_two_folders_with_all_that_is_beneath_them(self):
        shelf = sample()
        shelf.swap(p("/c"), p("/a"))
        self.assertEqual(walk_texts(shelf), [
            "/a", "/a/g =one", "/c", "/c/b", "/c/b/f =deep", "/c/g -> /a/g =one", "/e", "/f =top", "/x -> /f =top"])

    def test_folders_of_different_depths(self):
        shelf = sample()
        shelf.swap(p("/c"), p("/a/b"))
        self.assertEqual(walk_texts(shelf), [
            "/a", "/a/b", "/a/b/g =one", "/a/g -> /a/b/g =one", "/c", "/c/f =deep", "/e", "/f =top", "/x -> /f =top"])

    def test_a_file_and_a_folder(self):
        for path, other in [("/f", "/a/b"), ("/a/b", "/f")]:
            shelf = sample()
            shelf.swap(p(path), p(other))
            self.assertEqual(walk_texts(shelf), [
                "/a", "/a/b =top", "/a/g =one", "/c", "/c/g -> /a/g =one", "/e", "/f", "/f/f =deep",
                "/x -> /a/b =top"])

    def test_within_one_folder(self):
        shelf = shelf_of("/a", "/a/b =one", "/a/c =two")
        shelf.swap(p("/a/b"), p("/a/c"))
        self.assertEqual(walk_texts(shelf), ["/a", "/a/b =two", "/a/c =one"])

    def test_one_thing_twice_nothing_changes(self):
        for path, other in [("/f", "/f"), ("/f", "/x"), ("/x", "/f"), ("/a", "/a"), ("/c/g", "/a/g"), ("/e", "/e")]:
            shelf = sample()
            before = state_of(shelf)
            shelf.swap(p(path), p(other))
            self.assertEqual(state_of(shelf), before)

    def test_to_eight_names(self):
        shelf = shelf_of(*chain("a", 7), "/b", "/b/c =t")
        shelf.swap(("a",) * 7, p("/b"))
        self.assertEqual(shelf.text_of(("a",) * 7 + ("c",)), "t")
        self.assertEqual(shelf.names_in(p("/b")), [])


if __name__ == "__main__":
    unittest.main()
