"""What a shelf is asked: kinds, texts, names, counts, and the walk."""

import itertools
import unittest

from overfold.errors import NoThing, WrongKind
from overfold.shelf import Shelf
from shelf_help import SAMPLE_PATHS, ShelfTest, chain, p, sample, shelf_of, state_of

FOLDERS = ["/", "/a", "/a/b", "/c", "/e"]
FILES = ["/a/b/f", "/a/g", "/c/g", "/f", "/x"]
NOTHING = ["/b", "/n", "/a/n", "/a/b/n", "/n/n", "/f/n", "/f/f", "/a/g/n", "/f/n/n"]


class Kinds(ShelfTest):
    def test_each(self):
        shelf = sample()
        self.assertEqual([shelf.kind_of(p(path)) for path in FOLDERS], ["folder"] * 5)
        self.assertEqual([shelf.kind_of(p(path)) for path in FILES], ["file"] * 5)
        self.assertEqual([shelf.kind_of(p(path)) for path in NOTHING], [None] * 9)

    def test_of_an_empty_shelf(self):
        self.assertEqual(Shelf().kind_of(()), "folder")
        self.assertIsNone(Shelf().kind_of(p("/a")))


class Refusals(ShelfTest):
    def test_nothing_there(self):
        shelf = sample()
        for path in NOTHING:
            for call in [shelf.text_of, shelf.names_in, shelf.count_of]:
                self.refused(NoThing, call, p(path))

    def test_the_wrong_kind(self):
        shelf = sample()
        for path in FOLDERS:
            for call in [shelf.text_of, shelf.count_of]:
                self.refused(WrongKind, call, p(path))
        for path in FILES:
            self.refused(WrongKind, shelf.names_in, p(path))


class Texts(ShelfTest):
    def test_each(self):
        shelf = sample()
        self.assertEqual([shelf.text_of(p(path)) for path in FILES], ["deep", "one", "one", "top", "top"])

    def test_the_empty_text(self):
        self.assertEqual(shelf_of("/f =").text_of(p("/f")), "")


class Names(ShelfTest):
    def test_sorted(self):
        shelf = shelf_of("/c", "/a", "/ab =t", "/b", "/aa", "/z =", "/zz -> /z")
        self.assertEqual(shelf.names_in(()), ["a", "aa", "ab", "b", "c", "z", "zz"])

    def test_of_that_folder_alone(self):
        shelf = sample()
        told = [shelf.names_in(p(path)) for path in FOLDERS]
        self.assertEqual(told, [["a", "c", "e", "f", "x"], ["b", "g"], ["f"], ["g"], []])

    def test_a_told_list_is_the_askers_own(self):
        shelf = sample()
        told, again = shelf.names_in(p("/a")), shelf.names_in(p("/a"))
        self.assertIsNot(told, again)
        told.append("n")
        told.remove("b")
        again.clear()
        self.assertEqual(shelf.names_in(p("/a")), ["b", "g"])
        self.assertEqual(shelf.walked(), sample().walked())

    def test_nothing_done_later_changes_it(self):
        shelf = sample()
        told = shelf.names_in(p("/a"))
        shelf.drop(p("/a/g"))
        shelf.make_folder(p("/a/n"))
        self.assertEqual(told, ["b", "g"])


class Counts(ShelfTest):
    def test_each(self):
        shelf = sample()
        self.assertEqual([shelf.count_of(p(path)) for path in FILES], [1, 2, 2, 2, 2])

    def test_handles_are_no_names(self):
        shelf = sample()
        shelf.hold(p("/a/b/f"))
        self.assertEqual(shelf.count_of(p("/a/b/f")), 1)

    def test_by_deeds(self):
        shelf = sample()
        shelf.link(p("/x"), p("/a/n"))
        self.assertEqual(shelf.count_of(p("/f")), 3)
        shelf.move(p("/a/g"), p("/f"))
        self.assertEqual((shelf.count_of(p("/f")), shelf.count_of(p("/x"))), (2, 2))
        shelf.drop(p("/x"))
        self.assertEqual(shelf.count_of(p("/a/n")), 1)


class SameFile(ShelfTest):
    def test_every_pair(self):
        alike = [("/a/g", "/c/g"), ("/c/g", "/a/g"), ("/f", "/x"), ("/x", "/f")] + [(path, path) for path in FILES]
        shelf = sample()
        for path, other in itertools.product(FOLDERS + FILES + NOTHING, repeat=2):
            self.assertIs(shelf.same_file(p(path), p(other)), (path, other) in alike, (path, other))

    def test_of_one_text(self):
        self.assertIs(shelf_of("/f =t", "/g =t").same_file(p("/f"), p("/g")), False)


class Walking(ShelfTest):
    def test_of_the_sample(self):
        self.assertEqual(sample().walked(), [
            (p("/a"), "folder"), (p("/a/b"), "folder"), (p("/a/b/f"), "file", "deep", p("/a/b/f")),
            (p("/a/g"), "file", "one", p("/a/g")), (p("/c"), "folder"), (p("/c/g"), "file", "one", p("/a/g")),
            (p("/e"), "folder"), (p("/f"), "file", "top", p("/f")), (p("/x"), "file", "top", p("/f"))])

    def test_of_an_empty_shelf(self):
        self.assertEqual(Shelf().walked(), [])

    def test_by_rising_paths(self):
        shelf = shelf_of("/b", "/ab", "/a", "/a/z =", "/a/b", "/a/b/c =", "/b/a =", "/ab/a", "/aa =")
        told = [row[0] for row in shelf.walked()]
        self.assertEqual(told, [p(path) for path in [
            "/a", "/a/b", "/a/b/c", "/a/z", "/aa", "/ab", "/ab/a", "/b", "/b/a"]])

    def test_the_first_path_is_the_least_one_not_the_oldest_or_shortest(self):
        shelf = shelf_of("/m =t", "/z -> /m", "/a", "/a/n", "/a/n/z -> /m", "/b -> /z")
        self.assertEqual([row[3] for row in shelf.walked() if row[1] == "file"], [p("/a/n/z")] * 4)
        shelf.drop(p("/a/n/z"))
        self.assertEqual([row[3] for row in shelf.walked() if row[1] == "file"], [p("/b")] * 3)

    def test_eight_names(self):
        self.assertEqual(shelf_of(*chain("a", 8)).walked(), [(("a",) * count, "folder") for count in range(1, 9)])

    def test_a_told_list_is_the_askers_own(self):
        shelf = sample()
        told, again = shelf.walked(), shelf.walked()
        self.assertIsNot(told, again)
        self.assertEqual(told, again)
        told.clear()
        again.reverse()
        self.assertEqual(len(shelf.walked()), 9)
        self.assertEqual(shelf.walked(), sample().walked())

    def test_nothing_done_later_changes_it(self):
        shelf = sample()
        told = shelf.walked()
        shelf.write(p("/f"), "else")
        shelf.move(p("/a"), p("/e/a"))
        self.assertEqual(told, sample().walked())

    def test_two_hundred_paths(self):
        names = sorted(one + two for one in "abcdefghij" for two in "klmnopqrstuvwxyzabcd"[:20])
        shelf = Shelf()
        for name in reversed(names):
            shelf.make_file((name,), name)
        self.assertEqual(shelf.walked(), [((name,), "file", name, (name,)) for name in names])


class Asking(ShelfTest):
    def test_no_ask_changes_anything(self):
        shelf = sample()
        shelf.hold(p("/f"))
        before = state_of(shelf)
        for path in SAMPLE_PATHS + NOTHING:
            for call in [shelf.kind_of, shelf.text_of, shelf.names_in, shelf.count_of]:
                try:
                    call(p(path))
                except (NoThing, WrongKind):
                    pass
            shelf.same_file(p(path), p("/f"))
        self.assertEqual(state_of(shelf), before)
        self.assertEqual(shelf.hold(p("/f")), 2)


if __name__ == "__main__":
    unittest.main()
