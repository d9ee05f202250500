"""The refusals of a shelf's deeds: each by its own class, which of two comes first, and nothing changed by any."""

import unittest

from overfold.errors import NoThing, NotEmpty, Taken, TooDeep, TooLong, Within, WrongKind
from shelf_help import ShelfTest, chain, p, sample, shelf_of, state_of

SEVEN, EIGHT, NINE = ("a",) * 7, ("a",) * 8, ("a",) * 9


class OnSample(ShelfTest):
    """Each row is (class, what is handed in ..); a handle on each file shows that none of them is changed either."""

    def held_sample(self):
        shelf = sample()
        for path in ["/f", "/a/g", "/a/b/f"]:
            shelf.hold(p(path))
        return shelf

    def check(self, word, *rows):
        for row in rows:
            shelf = self.held_sample()
            handed = [p(value) if str(value).startswith("/") else value for value in row[1:]]
            self.refused(row[0], getattr(shelf, word), *handed)


class Making(OnSample):
    def test_make_folder(self):
        self.check(
            "make_folder", (NoThing, "/n/n"), (NoThing, "/a/n/n"), (NoThing, "/f/n/n"), (WrongKind, "/f/n"),
            (WrongKind, "/c/g/n"), (Taken, "/a"), (Taken, "/e"), (Taken, "/f"), (Taken, "/a/b/f"), (Taken, "/"))

    def test_make_file(self):
        self.check(
            "make_file", (NoThing, "/n/n", "t"), (NoThing, "/a/n/n", "t"), (NoThing, "/f/n/n", "t"),
            (WrongKind, "/f/n", "t"), (WrongKind, "/c/g/n", "t"), (Taken, "/a", "t"), (Taken, "/e", "t"),
            (Taken, "/f", "t"), (Taken, "/a/b/f", "t"), (Taken, "/", "t"))

    def test_the_root_of_an_empty_shelf_is_taken(self):
        shelf = shelf_of()
        self.refused(Taken, shelf.make_folder, ())
        self.refused(Taken, shelf.make_file, (), "t")


class Writing(OnSample):
    def test_write(self):
        self.check(
            "write", (NoThing, "/n", "t"), (NoThing, "/n/n", "t"), (NoThing, "/f/f", "t"), (WrongKind, "/a", "t"),
            (WrongKind, "/e", "t"), (WrongKind, "/", "t"))

    def test_cut(self):
        self.check(
            "cut", (NoThing, "/n", 2), (NoThing, "/n/n", 2), (NoThing, "/f/f", 2), (WrongKind, "/a", 2),
            (WrongKind, "/e", 2), (WrongKind, "/", 2))

    def test_put(self):
        self.check(
            "put", (NoThing, "/n", 0, "t"), (NoThing, "/f/f", 0, "t"), (WrongKind, "/a", 0, "t"),
            (WrongKind, "/", 0, "t"), (TooLong, "/f", 200, "t"), (TooLong, "/f", 1, "t" * 200),
            (TooLong, "/x", 199, "tt"), (TooLong, "/a/b/f", 101, "t" * 100))

    def test_too_long_is_last(self):
        self.check(
            "put", (NoThing, "/n", 200, "t"), (NoThing, "/f/f", 200, "t"), (WrongKind, "/a", 200, "t"),
            (WrongKind, "/", 200, "t"))

    def test_put_of_no_signs_is_not_too_long(self):
        shelf = sample()
        shelf.put(p("/f"), 200, "")
        self.assertEqual(len(shelf.text_of(p("/f"))), 200)
        self.refused(TooLong, shelf.put, p("/f"), 200, "t")


class Linking(OnSample):
    def test_of_path(self):
        self.check("link", (NoThing, "/n", "/m"), (NoThing, "/f/f", "/m"), (WrongKind, "/a", "/m"),
                   (WrongKind, "/", "/m"))

    def test_of_other(self):
        self.check(
            "link", (NoThing, "/f", "/n/n"), (NoThing, "/f", "/f/n/n"), (WrongKind, "/f", "/f/n"),
            (WrongKind, "/f", "/a/g/n"), (Taken, "/f", "/f"), (Taken, "/f", "/x"), (Taken, "/f", "/a"),
            (Taken, "/f", "/e"), (Taken, "/f", "/a/g"), (Taken, "/f", "/"))

    def test_those_of_path_are_ahead(self):
        self.check(
            "link", (NoThing, "/n", "/f/n"), (NoThing, "/n", "/f"), (NoThing, "/n", "/"), (WrongKind, "/a", "/n/n"),
            (WrongKind, "/a", "/f"), (WrongKind, "/", "/n/n"), (WrongKind, "/a", "/a"))


class Dropping(OnSample):
    def test_each(self):
        self.check(
            "drop", (Within, "/"), (NoThing, "/n"), (NoThing, "/n/n"), (NoThing, "/f/f"), (NotEmpty, "/a"),
            (NotEmpty, "/a/b"), (NotEmpty, "/c"))

    def test_within_of_an_empty_root(self):
        self.refused(Within, shelf_of().drop, ())

    def test_a_folder_is_not_empty_of_an_empty_folder(self):
        shelf = shelf_of("/a", "/a/b")
        self.refused(NotEmpty, shelf.drop, p("/a"))


class Moving(OnSample):
    def test_within_of_the_root_is_ahead_of_all(self):
        self.check(
            "move", (Within, "/", "/"), (Within, "/", "/n"), (Within, "/f", "/"), (Within, "/a", "/"),
            (Within, "/n", "/"), (Within, "/", "/n/n"), (Within, "/", "/f/n"), (Within, "/", "/a"),
            (Within, "/", "/f"), (Within, "/", "/a/b"))

    def test_nothing_is_at_path(self):
        self.check("move", (NoThing, "/n", "/m"), (NoThing, "/n", "/n"), (NoThing, "/f/f", "/m"),
                   (NoThing, "/n", "/f"), (NoThing, "/n", "/a"))

    def test_nothing_at_path_is_ahead_of_others_parent_and_of_within(self):
        self.check("move", (NoThing, "/n", "/f/n"), (NoThing, "/n", "/n/n"), (NoThing, "/f/f", "/f/f/f"))

    def test_others_parent(self):
        self.check("move", (NoThing, "/f", "/n/n"), (NoThing, "/a", "/f/n/n"), (WrongKind, "/a", "/f/n"),
                   (WrongKind, "/e", "/a/g/n"))

    def test_others_parent_is_ahead_of_within(self):
        self.check("move", (NoThing, "/a", "/a/n/n"), (WrongKind, "/a", "/a/g/n"), (WrongKind, "/f", "/f/n"),
                   (NoThing, "/f", "/f/n/n"))

    def test_within_where_other_is_beneath_path(self):
        self.check("move", (Within, "/a", "/a/n"), (Within, "/e", "/e/n"), (Within, "/a", "/a/b/n"))

    def test_within_is_ahead_of_what_is_at_other(self):
        self.check("move", (Within, "/a", "/a/g"), (Within, "/a", "/a/b"), (Within, "/a", "/a/b/f"))

    def test_just_one_of_both_is_a_folder(self):
        self.check("move", (WrongKind, "/f", "/e"), (WrongKind, "/e", "/f"), (WrongKind, "/a", "/f"),
                   (WrongKind, "/a/b", "/x"))

    def test_wrong_kind_is_ahead_of_not_empty(self):
        self.check("move", (WrongKind, "/f", "/a"), (WrongKind, "/a/g", "/a"), (WrongKind, "/a/b/f", "/a/b"))

    def test_a_folder_there_that_is_not_empty(self):
        self.check("move", (NotEmpty, "/e", "/a"), (NotEmpty, "/a", "/c"), (NotEmpty, "/a/b", "/a"))

    def test_to_itself_is_ahead_of_not_empty(self):
        shelf = self.held_sample()
        before = state_of(shelf)
        shelf.move(p("/a"), p("/a"))
        self.assertEqual(state_of(shelf), before)


class MovingDeep(ShelfTest):
    def deep(self):
        return shelf_of(*chain("a", 8), "/b", "/b/c", "/b/c/d =t", "/e", "/f =t", "/" + "/".join(SEVEN) + "/f =u")

    def test_eight_names_are_done_nine_are_too_deep(self):
        shelf = self.deep()
        self.refused(TooDeep, shelf.move, p("/f"), NINE)
        self.refused(TooDeep, shelf.move, p("/e"), NINE)
        self.refused(TooDeep, shelf.move, p("/b"), SEVEN + ("b",))
        self.refused(TooDeep, shelf.move, p("/b/c"), SEVEN + ("b",))
        shelf.move(p("/b/c"), ("a",) * 6 + ("b",))
        shelf.move(p("/e"), SEVEN + ("e",))
        shelf.move(p("/f"), SEVEN + ("g",))
        self.assertEqual(shelf.text_of(("a",) * 6 + ("b", "d")), "t")
        self.assertEqual(shelf.names_in(SEVEN), ["a", "e", "f", "g"])

    def test_the_deepest_thing_counts_wherever_it_stands(self):
        shelf = shelf_of(*chain("a", 6), "/b", "/b/a", "/b/b", "/b/b/b", "/b/c")
        self.refused(TooDeep, shelf.move, p("/b"), SEVEN)
        shelf.move(p("/b/b"), SEVEN)
        self.assertEqual(shelf.names_in(SEVEN), ["b"])

    def test_over_an_empty_folder(self):
        self.refused(TooDeep, self.deep().move, p("/b"), EIGHT)

    def test_too_deep_is_behind_others_parent(self):
        shelf = self.deep()
        self.refused(NoThing, shelf.move, p("/b"), EIGHT[:7] + ("n", "n"))
        self.refused(WrongKind, shelf.move, p("/b"), SEVEN + ("f", "n"))

    def test_too_deep_is_behind_within(self):
        self.refused(Within, self.deep().move, p("/a"), NINE)
        self.refused(Within, self.deep().move, p("/a"), p("/a/b"))

    def test_too_deep_is_behind_wrong_kind(self):
        shelf = self.deep()
        self.refused(WrongKind, shelf.move, p("/b"), SEVEN + ("f",))

    def test_too_deep_is_behind_not_empty(self):
        shelf = self.deep()
        self.refused(NotEmpty, shelf.move, p("/b"), SEVEN)

    def test_to_itself_is_ahead_of_too_deep(self):
        shelf = self.deep()
        before = state_of(shelf)
        shelf.move(EIGHT, EIGHT)
        shelf.move(p("/a"), p("/a"))
        self.assertEqual(state_of(shelf), before)


class Swapping(OnSample):
    def test_within_of_the_root_is_ahead_of_all(self):
        self.check(
            "swap", (Within, "/", "/"), (Within, "/", "/f"), (Within, "/f", "/"), (Within, "/n", "/"),
            (Within, "/", "/n"))

    def test_nothing_there(self):
        self.check(
            "swap", (NoThing, "/n", "/f"), (NoThing, "/f", "/n"), (NoThing, "/n", "/n"), (NoThing, "/n", "/m"),
            (NoThing, "/f/f", "/a"), (NoThing, "/a", "/f/f"), (NoThing, "/n/n", "/a"))

    def test_nothing_there_is_ahead_of_within(self):
        self.check("swap", (NoThing, "/a", "/a/n"), (NoThing, "/a/n", "/a"), (NoThing, "/f", "/f/f"))

    def test_one_beneath_the_other(self):
        self.check("swap", (Within, "/a", "/a/b"), (Within, "/a/b", "/a"), (Within, "/a", "/a/b/f"),
                   (Within, "/a/b/f", "/a"), (Within, "/a/g", "/a"))


class SwappingDeep(ShelfTest):
    def deep(self):
        return shelf_of(*chain("a", 8), "/b", "/b/c", "/b/c/d =t", "/e", "/e/f =u")

    def test_nine_names_on_either_side(self):
        shelf = self.deep()
        for other in [SEVEN, EIGHT]:
            self.refused(TooDeep, shelf.swap, p("/b"), other)
            self.refused(TooDeep, shelf.swap, other, p("/b"))
        self.refused(TooDeep, shelf.swap, p("/e"), EIGHT)

    def test_both_sides_are_asked(self):
        shelf = shelf_of(*chain("a", 5), *["/b" * count for count in range(1, 8)])
        self.refused(TooDeep, shelf.swap, p("/a/a/a"), p("/b"))
        self.refused(TooDeep, shelf.swap, p("/b"), p("/a/a/a"))

    def test_eight_names_are_done(self):
        shelf = self.deep()
        shelf.swap(p("/e"), SEVEN)
        shelf.swap(("a",) * 6, p("/b"))
        self.assertEqual(shelf.text_of(("a",) * 6 + ("c", "d")), "t")
        self.assertEqual(shelf.text_of(p("/b/a/f")), "u")
        self.assertEqual(shelf.names_in(p("/e")), ["a"])

    def test_within_is_ahead_of_too_deep(self):
        shelf = self.deep()
        self.refused(Within, shelf.swap, p("/a"), p("/a/a"))
        self.refused(Within, shelf.swap, p("/a/a"), p("/a"))

    def test_nothing_there_is_ahead_of_too_deep(self):
        shelf = self.deep()
        self.refused(NoThing, shelf.swap, p("/b"), NINE)
        self.refused(NoThing, shelf.swap, NINE, p("/b"))

    def test_to_itself_is_ahead_of_too_deep(self):
        shelf = self.deep()
        before = state_of(shelf)
        shelf.swap(EIGHT, EIGHT)
        shelf.swap(p("/a"), p("/a"))
        self.assertEqual(state_of(shelf), before)


class Beyond(ShelfTest):
    """Where no refusal is told, nothing is refused for a number, a length or a depth."""

    def test_longer_texts_and_sizes(self):
        shelf = sample()
        shelf.write(p("/f"), "t" * 201)
        self.assertEqual(shelf.text_of(p("/x")), "t" * 201)
        shelf.cut(p("/f"), 202)
        self.assertEqual(shelf.text_of(p("/x")), "t" * 201 + " ")
        shelf.make_file(p("/n"), "t" * 201)
        self.refused(TooLong, shelf.put, p("/n"), 0, "t")

    def test_nine_names_are_made(self):
        shelf = shelf_of(*chain("a", 8))
        shelf.make_folder(NINE)
        shelf.make_file(EIGHT + ("f",), "t")
        shelf.link(EIGHT + ("f",), EIGHT + ("g",))
        self.assertEqual(shelf.names_in(EIGHT), ["a", "f", "g"])

    def test_more_than_two_hundred_paths(self):
        shelf = shelf_of("/f =t")
        names = [one + two for one in "abcdefghij" for two in "abcdefghijklmnopqrstu"]
        for name in names:
            shelf.link(p("/f"), (name,))
        self.assertEqual(shelf.count_of(p("/f")), len(names) + 1)


if __name__ == "__main__":
    unittest.main()
