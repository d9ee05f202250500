import itertools
import unittest

from overfold.errors import NoThing, NotEmpty, ShelfError, Taken, TooDeep, Within, WrongKind
from overfold.paths import is_beneath, moved_path, path_in
from overfold.tree import (File, Folder, add_name, drop_name, file_below, first_paths, folder_below, found_file,
                           found_folder, found_thing, height_of, is_file, is_folder, kind_at, link_name, move_name,
                           names_within, paths_of, same_file_at, swap_names, thing_at, things_beneath)

A, B, C, F, G, X = [(name,) for name in "abcfgx"]


def tree_of(*rows):
    """Rows as "/a" (a folder), "/f =text" (a file) or "/g -> /f" (one more name)."""
    root = Folder()
    for row in rows:
        path, sign, rest = row.partition(" ")
        if rest.startswith("="):
            add_name(root, path_in(path), File(rest[1:]))
        elif rest.startswith("-> "):
            link_name(root, path_in(rest[3:]), path_in(path))
        else:
            add_name(root, path_in(path), Folder())
    return root


def sample():
    return tree_of("/a", "/a/b", "/a/b/f =deep", "/a/g =one", "/c", "/c/g -> /a/g", "/e", "/f =top", "/x -> /f")


def walk_of(root):
    """What is at each path, with the object itself, so that a thing's identity counts."""
    return [(path, thing, thing.text if is_file(thing) else None) for path, thing in things_beneath(root)]


class Refusing(unittest.TestCase):
    def refused(self, error, deed, root, *handed):
        before = walk_of(root)
        with self.assertRaises(ShelfError) as caught:
            deed(root, *handed)
        self.assertIs(type(caught.exception), error, (deed.__name__, handed))
        self.assertEqual(walk_of(root), before)


class Things(unittest.TestCase):
    def test_a_new_folder_is_empty(self):
        self.assertEqual(names_within(Folder()), [])
        self.assertEqual(things_beneath(Folder()), [])

    def test_two_folders_share_nothing(self):
        one, other = Folder(), Folder()
        add_name(one, A, Folder())
        self.assertEqual(names_within(other), [])

    def test_a_file_has_its_text(self):
        self.assertEqual(File("some text").text, "some text")
        self.assertEqual(File("").text, "")

    def test_what_is_new_has_nothing_beneath(self):
        root, folder, file = sample(), Folder(), File("t")
        self.assertIsNone(folder_below(root, folder))
        self.assertIsNone(file_below(root, file))

    def test_what_lies_beneath_is_found_in_the_ground(self):
        ground, folder, file = sample(), Folder(), File("t")
        folder.beneath, file.origin = ("a", "b"), F
        self.assertIs(folder_below(ground, folder), thing_at(ground, ("a", "b")))
        self.assertIs(file_below(ground, file), thing_at(ground, F))
        folder.beneath = ()
        self.assertIs(folder_below(ground, folder), ground)

    def test_deeds_keep_what_lies_beneath(self):
        root = sample()
        folder, file = thing_at(root, A), thing_at(root, F)
        folder.beneath, file.origin = C, X
        swap_names(root, A, F)
        move_name(root, F, ("c", "n"))
        link_name(root, A, B)
        self.assertEqual(thing_at(root, ("c", "n")).beneath, C)
        self.assertEqual(thing_at(root, B).origin, X)

    def test_kinds(self):
        self.assertIs(is_folder(Folder()), True)
        self.assertIs(is_folder(File("")), False)
        self.assertIs(is_folder(None), False)
        self.assertIs(is_file(File("")), True)
        self.assertIs(is_file(Folder()), False)
        self.assertIs(is_file(None), False)


class Finding(Refusing):
    def test_thing_at(self):
        root = sample()
        self.assertIs(thing_at(root, ()), root)
        self.assertEqual(thing_at(root, ("a", "b", "f")).text, "deep")
        self.assertIs(is_folder(thing_at(root, ("a", "b"))), True)

    def test_nothing_is_there(self):
        for text in ["/b", "/a/f", "/a/b/c", "/n/n", "/e/a"]:
            self.assertIsNone(thing_at(sample(), path_in(text)))

    def test_nothing_is_behind_a_files_name(self):
        self.assertIsNone(thing_at(sample(), ("f", "a")))
        self.assertIsNone(thing_at(sample(), ("f", "a", "b")))

    def test_kind_at(self):
        root = sample()
        self.assertEqual(kind_at(root, ()), "folder")
        self.assertEqual(kind_at(root, A), "folder")
        self.assertEqual(kind_at(root, F), "file")
        self.assertIsNone(kind_at(root, B))
        self.assertIsNone(kind_at(root, ("f", "a")))

    def test_found_thing(self):
        root = sample()
        self.assertIs(found_thing(root, A), thing_at(root, A))
        self.assertIs(found_thing(root, F), thing_at(root, F))
        self.refused(NoThing, found_thing, root, B)

    def test_found_folder(self):
        root = sample()
        self.assertIs(found_folder(root, A), thing_at(root, A))
        self.assertIs(found_folder(root, ()), root)
        self.refused(NoThing, found_folder, root, B)
        self.refused(NoThing, found_folder, root, ("f", "a"))
        self.refused(WrongKind, found_folder, root, F)

    def test_found_file(self):
        root = sample()
        self.assertIs(found_file(root, F), thing_at(root, F))
        self.refused(NoThing, found_file, root, B)
        self.refused(NoThing, found_file, root, ("f", "a"))
        self.refused(WrongKind, found_file, root, A)
        self.refused(WrongKind, found_file, root, ())


class Walking(unittest.TestCase):
    def test_names_are_sorted(self):
        root = tree_of("/c", "/a", "/ab", "/b =")
        self.assertEqual(names_within(root), ["a", "ab", "b", "c"])

    def test_names_are_the_askers_own(self):
        root = sample()
        told = names_within(root)
        told.append("n")
        self.assertEqual(names_within(root), ["a", "c", "e", "f", "x"])
        add_name(root, B, Folder())
        self.assertEqual(told, ["a", "c", "e", "f", "x", "n"])

    def test_things_by_rising_paths(self):
        root = tree_of("/b", "/ab", "/a", "/a/z =", "/a/b", "/a/b/c =", "/b/a =")
        told = [path for path, thing in things_beneath(root)]
        self.assertEqual(told, [A, ("a", "b"), ("a", "b", "c"), ("a", "z"), ("ab",), B, ("b", "a")])
        self.assertEqual(told, sorted(told))

    def test_things_are_those_at_their_paths(self):
        root = sample()
        for path, thing in things_beneath(root):
            self.assertIs(thing, thing_at(root, path))

    def test_things_beneath_a_folder_are_told_from_it(self):
        root = sample()
        self.assertEqual([path for path, thing in things_beneath(thing_at(root, A))], [B, ("b", "f"), G])

    def test_things_are_the_askers_own(self):
        root = sample()
        told = things_beneath(root)
        told.clear()
        self.assertEqual(len(things_beneath(root)), 9)

    def test_paths_of_a_file_are_all_its_names_rising(self):
        root = sample()
        self.assertEqual(paths_of(root, thing_at(root, F)), [F, X])
        self.assertEqual(paths_of(root, thing_at(root, ("c", "g"))), [("a", "g"), ("c", "g")])
        self.assertEqual(paths_of(root, thing_at(root, ("a", "b", "f"))), [("a", "b", "f")])

    def test_files_of_one_text_are_not_one_file(self):
        root = tree_of("/f =same", "/g =same")
        self.assertEqual(paths_of(root, thing_at(root, F)), [F])
        self.assertIs(same_file_at(root, F, G), False)

    def test_paths_of_what_has_no_name(self):
        self.assertEqual(paths_of(sample(), File("top")), [])

    def test_first_paths_are_the_least_of_each_files_names(self):
        root = sample()
        firsts = [(path, thing.text) for thing, path in first_paths(root).items()]
        self.assertEqual(sorted(firsts), [(("a", "b", "f"), "deep"), (("a", "g"), "one"), (F, "top")])
        self.assertEqual(first_paths(Folder()), {})

    def test_same_file(self):
        root = sample()
        self.assertIs(same_file_at(root, F, X), True)
        self.assertIs(same_file_at(root, X, F), True)
        self.assertIs(same_file_at(root, F, F), True)
        self.assertIs(same_file_at(root, F, ("a", "g")), False)

    def test_same_file_is_of_files_that_are_there(self):
        root = sample()
        self.assertIs(same_file_at(root, A, A), False)
        self.assertIs(same_file_at(root, (), ()), False)
        self.assertIs(same_file_at(root, B, B), False)
        self.assertIs(same_file_at(root, F, B), False)
        self.assertIs(same_file_at(root, B, F), False)
        self.assertIs(same_file_at(root, A, F), False)

    def test_height(self):
        root = sample()
        self.assertEqual(height_of(root), 3)
        self.assertEqual(height_of(thing_at(root, A)), 2)
        self.assertEqual(height_of(thing_at(root, ("e",))), 0)
        self.assertEqual(height_of(thing_at(root, F)), 0)


class Adding(Refusing):
    def test_a_name_in_the_root_and_in_a_folder(self):
        root = Folder()
        folder, file = Folder(), File("t")
        add_name(root, A, folder)
        add_name(root, ("a", "f"), file)
        self.assertEqual(walk_of(root), [(A, folder, None), (("a", "f"), file, "t")])

    def test_eight_names(self):
        root = Folder()
        for length in range(1, 9):
            add_name(root, ("a",) * length, Folder())
        self.assertEqual(height_of(root), 8)

    def test_refusals_in_order(self):
        root = sample()
        self.refused(NoThing, add_name, root, ("b", "c"), Folder())
        self.refused(NoThing, add_name, root, ("f", "a", "b"), Folder())
        self.refused(WrongKind, add_name, root, ("f", "a"), Folder())
        self.refused(Taken, add_name, root, A, Folder())
        self.refused(Taken, add_name, root, F, File(""))
        self.refused(Taken, add_name, root, (), Folder())


class Linking(Refusing):
    def test_one_more_name_of_the_same_file(self):
        root = sample()
        link_name(root, F, ("e", "n"))
        self.assertEqual(paths_of(root, thing_at(root, F)), [("e", "n"), F, X])
        thing_at(root, X).text = "written"
        self.assertEqual(thing_at(root, ("e", "n")).text, "written")

    def test_refusals_of_path_are_ahead(self):
        root = sample()
        self.refused(NoThing, link_name, root, B, ("f", "a"))
        self.refused(NoThing, link_name, root, B, ())
        self.refused(WrongKind, link_name, root, A, ("n", "n"))
        self.refused(WrongKind, link_name, root, (), F)

    def test_refusals_of_other(self):
        root = sample()
        self.refused(NoThing, link_name, root, F, ("n", "n"))
        self.refused(WrongKind, link_name, root, F, ("f", "n"))
        self.refused(Taken, link_name, root, F, A)
        self.refused(Taken, link_name, root, F, F)
        self.refused(Taken, link_name, root, F, X)
        self.refused(Taken, link_name, root, F, ())


class Dropping(Refusing):
    def test_a_files_one_name(self):
        root = sample()
        drop_name(root, ("a", "b", "f"))
        self.assertIsNone(thing_at(root, ("a", "b", "f")))
        self.assertEqual(len(things_beneath(root)), 8)

    def test_one_of_a_files_names(self):
        root = sample()
        file = thing_at(root, F)
        drop_name(root, F)
        self.assertEqual(paths_of(root, file), [X])
        self.assertEqual(file.text, "top")

    def test_an_empty_folder(self):
        root = sample()
        drop_name(root, ("e",))
        self.assertIsNone(thing_at(root, ("e",)))

    def test_refusals(self):
        root = sample()
        self.refused(Within, drop_name, root, ())
        self.refused(Within, drop_name, Folder(), ())
        self.refused(NoThing, drop_name, root, B)
        self.refused(NoThing, drop_name, root, ("f", "a"))
        self.refused(NotEmpty, drop_name, root, A)
        self.refused(NotEmpty, drop_name, root, ("a", "b"))


def chain(name, length):
    return [("/" + name) * count for count in range(1, length + 1)]


class Moving(Refusing):
    def test_a_file_to_a_new_name(self):
        root = sample()
        file = thing_at(root, F)
        move_name(root, F, ("e", "n"))
        self.assertEqual(paths_of(root, file), [("e", "n"), X])

    def test_a_folder_with_all_beneath_it(self):
        root = sample()
        before = things_beneath(root)
        move_name(root, A, ("e", "n"))
        expected = sorted([(moved_path(path, A, ("e", "n")), thing) for path, thing in before], key=lambda row: row[0])
        self.assertEqual(things_beneath(root), expected)

    def test_within_one_folder(self):
        root = tree_of("/a", "/a/b =")
        move_name(root, ("a", "b"), ("a", "c"))
        self.assertEqual(names_within(thing_at(root, A)), ["c"])

    def test_a_file_there_loses_that_name_alone(self):
        root = sample()
        mover, loser = thing_at(root, ("a", "b", "f")), thing_at(root, F)
        move_name(root, ("a", "b", "f"), F)
        self.assertIs(thing_at(root, F), mover)
        self.assertEqual(paths_of(root, mover), [F])
        self.assertEqual(paths_of(root, loser), [X])

    def test_an_empty_folder_there_goes(self):
        root = sample()
        mover = thing_at(root, A)
        move_name(root, A, ("e",))
        self.assertIs(thing_at(root, ("e",)), mover)
        self.assertIsNone(thing_at(root, A))

    def test_to_itself_or_to_a_name_of_the_same_file_changes_nothing(self):
        for path, other in [(F, F), (F, X), (X, F), (A, A), (("a", "g"), ("c", "g"))]:
            root = sample()
            before = walk_of(root)
            move_name(root, path, other)
            self.assertEqual(walk_of(root), before)

    def test_to_itself_where_nothing_may_be_deeper(self):
        root = tree_of(*chain("a", 8))
        before = walk_of(root)
        move_name(root, A, A)
        move_name(root, ("a",) * 8, ("a",) * 8)
        self.assertEqual(walk_of(root), before)

    def test_within_of_the_root_is_ahead_of_all(self):
        root = sample()
        for path, other in [((), ()), ((), F), (F, ()), (B, ()), ((), ("n", "n"))]:
            self.refused(Within, move_name, root, path, other)

    def test_no_thing_of_path_is_ahead_of_others_parent(self):
        root = sample()
        self.refused(NoThing, move_name, root, B, ("f", "n"))
        self.refused(NoThing, move_name, root, B, B)
        self.refused(NoThing, move_name, root, ("f", "a"), B)

    def test_others_parent(self):
        root = sample()
        self.refused(NoThing, move_name, root, F, ("n", "n"))
        self.refused(NoThing, move_name, root, A, ("a", "n", "n"))
        self.refused(WrongKind, move_name, root, A, ("f", "n"))
        self.refused(WrongKind, move_name, root, F, ("f", "n"))

    def test_within_where_other_is_beneath_path(self):
        root = sample()
        self.refused(Within, move_name, root, A, ("a", "n"))
        self.refused(Within, move_name, root, A, ("a", "b"))
        self.refused(Within, move_name, root, A, ("a", "g"))
        self.refused(Within, move_name, root, A, ("a", "b", "n"))
        self.refused(Within, move_name, tree_of(*chain("a", 8)), A, ("a", "b"))

    def test_just_one_is_a_folder(self):
        root = sample()
        self.refused(WrongKind, move_name, root, F, ("e",))
        self.refused(WrongKind, move_name, root, F, A)
        self.refused(WrongKind, move_name, root, ("e",), F)
        self.refused(WrongKind, move_name, root, ("a", "g"), A)

    def test_a_folder_there_that_is_not_empty(self):
        root = sample()
        self.refused(NotEmpty, move_name, root, ("e",), A)
        self.refused(NotEmpty, move_name, root, ("a", "b"), A)

    def test_too_deep(self):
        root = tree_of(*chain("a", 7), "/b", "/b/c", "/f =")
        self.refused(TooDeep, move_name, root, B, ("a",) * 7 + ("b",))
        move_name(root, ("f",), ("a",) * 7 + ("f",))
        move_name(root, B, ("a",) * 6 + ("b",))
        self.assertEqual(height_of(root), 8)

    def test_too_deep_is_behind_all_else(self):
        root = tree_of(*chain("a", 8), "/b", "/b/c", "/b/c/d =", "/f =")
        eighth = ("a",) * 8
        self.refused(TooDeep, move_name, root, B, eighth)
        self.refused(TooDeep, move_name, root, F, eighth + ("n",))
        self.refused(NotEmpty, move_name, root, B, ("a",) * 7)
        self.refused(WrongKind, move_name, root, F, eighth)
        self.refused(NotEmpty, move_name, root, A, B)


class Swapping(Refusing):
    def test_two_files(self):
        root = sample()
        one, other = thing_at(root, F), thing_at(root, ("a", "g"))
        swap_names(root, F, ("a", "g"))
        self.assertEqual(paths_of(root, one), [("a", "g"), X])
        self.assertEqual(paths_of(root, other), [("c", "g"), F])

    def test_two_folders_with_all_beneath_them(self):
        root = sample()
        swap_names(root, A, C)
        told = [path for path, thing in things_beneath(root)]
        self.assertEqual(told, [A, ("a", "g"), C, ("c", "b"), ("c", "b", "f"), ("c", "g"), ("e",), F, X])

    def test_a_folder_and_a_file(self):
        root = sample()
        swap_names(root, F, ("a", "b"))
        self.assertEqual(thing_at(root, ("a", "b")).text, "top")
        self.assertEqual(thing_at(root, ("f", "f")).text, "deep")

    def test_twice_is_as_it_was(self):
        root = sample()
        before = walk_of(root)
        swap_names(root, ("a", "b"), C)
        self.assertNotEqual(walk_of(root), before)
        swap_names(root, C, ("a", "b"))
        self.assertEqual(walk_of(root), before)

    def test_one_thing_twice_changes_nothing(self):
        for path, other in [(F, F), (F, X), (A, A), (("c", "g"), ("a", "g"))]:
            root = sample()
            before = walk_of(root)
            swap_names(root, path, other)
            self.assertEqual(walk_of(root), before)

    def test_within_of_the_root_is_ahead_of_all(self):
        root = sample()
        for path, other in [((), ()), ((), F), (F, ()), (B, ()), ((), B)]:
            self.refused(Within, swap_names, root, path, other)

    def test_nothing_there(self):
        root = sample()
        self.refused(NoThing, swap_names, root, B, F)
        self.refused(NoThing, swap_names, root, F, B)
        self.refused(NoThing, swap_names, root, B, B)
        self.refused(NoThing, swap_names, root, A, ("a", "n"))
        self.refused(NoThing, swap_names, root, F, ("f", "n"))

    def test_one_beneath_the_other(self):
        root = sample()
        self.refused(Within, swap_names, root, A, ("a", "b"))
        self.refused(Within, swap_names, root, ("a", "b"), A)
        self.refused(Within, swap_names, root, ("a", "b", "f"), A)
        self.refused(Within, swap_names, tree_of(*chain("a", 8)), A, ("a", "a"))

    def test_too_deep_on_either_side(self):
        root = tree_of(*chain("a", 7), "/b", "/b/c", "/b/c/d =", "/f =")
        self.refused(TooDeep, swap_names, root, B, ("a",) * 7)
        self.refused(TooDeep, swap_names, root, ("a",) * 7, B)

    def test_eight_names_are_not_too_deep(self):
        root = tree_of(*chain("a", 7), "/b", "/b/c", "/b/c/d =")
        swap_names(root, B, ("a",) * 6)
        self.assertEqual(height_of(root), 8)
        self.assertEqual(kind_at(root, ("a",) * 6 + ("c", "d")), "file")

    def test_nothing_changes_is_ahead_of_too_deep(self):
        nine = ("a",) * 9
        root = tree_of(*chain("a", 8))
        add_name(root, nine, File("t"))
        before = walk_of(root)
        swap_names(root, nine, nine)
        swap_names(root, A, A)
        move_name(root, nine, nine)
        move_name(root, A, A)
        self.assertEqual(walk_of(root), before)


PATHS = [path_in(text) for text in ["/", "/a", "/b", "/f", "/g", "/a/a", "/a/b", "/a/f", "/b/a", "/f/a", "/a/a/a"]]


def flat(root):
    return dict([((), root)] + things_beneath(root))


def flat_moved(things, path, other):
    """What a move makes of a dict from paths to things, told from the paths alone."""
    if things[path] == things.get(other):
        return things
    kept = {at: thing for at, thing in things.items() if at != other}
    return {moved_path(at, path, other): thing for at, thing in kept.items()}


def flat_swapped(things, path, other):
    def goal(at):
        if at == path or is_beneath(at, path):
            return moved_path(at, path, other)
        return moved_path(at, other, path)
    if things[path] == things[other]:
        return things
    return {goal(at): thing for at, thing in things.items()}


class EveryPairOfPaths(unittest.TestCase):
    """Each deed on each pair, held against the same deed told on a plain dict of paths."""

    def trees(self):
        yield tree_of("/a", "/a/a", "/a/b =one", "/b", "/f =two", "/g -> /f")
        yield tree_of("/a", "/a/a", "/a/a/a =one", "/a/f -> /a/a/a", "/b", "/b/a", "/f -> /a/f")
        yield tree_of("/a", "/b =one", "/g", "/f -> /b")

    def check(self, deed, expected):
        done = 0
        for path, other in itertools.product(PATHS, PATHS):
            for root in self.trees():
                before = flat(root)
                try:
                    deed(root, path, other)
                except ShelfError:
                    self.assertEqual(flat(root), before)
                else:
                    done += 1
                    self.assertEqual(flat(root), expected(before, path, other))
        self.assertGreater(done, 20)

    def test_move(self):
        self.check(move_name, flat_moved)

    def test_swap(self):
        self.check(swap_names, flat_swapped)

    def test_link(self):
        self.check(link_name, lambda things, path, other: {**things, other: things[path]})


if __name__ == "__main__":
    unittest.main()
