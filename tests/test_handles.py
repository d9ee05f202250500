"""Handles: their numbers, what is done and told by them, and what becomes of their files."""

import unittest

from overfold.errors import NoHandle, NoThing, Taken, TooLong, WrongKind
from overfold.shelf import Shelf
from shelf_help import ShelfTest, p, sample, shelf_of, state_of, walk_texts


class Numbers(ShelfTest):
    def test_in_the_order_of_opening(self):
        shelf = sample()
        self.assertEqual([shelf.hold(p(path)) for path in ["/x", "/a/g", "/f", "/f", "/c/g"]], [1, 2, 3, 4, 5])
        self.assertEqual(shelf.handles(), [1, 2, 3, 4, 5])

    def test_a_refused_hold_uses_up_none(self):
        shelf = sample()
        self.assertEqual(shelf.hold(p("/f")), 1)
        for error, path in [(NoThing, "/n"), (NoThing, "/f/f"), (NoThing, "/n/n"), (WrongKind, "/a"),
                            (WrongKind, "/e"), (WrongKind, "/")]:
            self.refused(error, shelf.hold, p(path))
        self.assertEqual(shelf.hold(p("/f")), 2)

    def test_none_twice_behind_a_close(self):
        shelf = sample()
        self.assertEqual([shelf.hold(p("/f")), shelf.hold(p("/f"))], [1, 2])
        shelf.close(2)
        self.assertEqual(shelf.hold(p("/f")), 3)
        shelf.close(1)
        shelf.close(3)
        self.assertEqual(shelf.hold(p("/f")), 4)
        self.assertEqual(shelf.handles(), [4])

    def test_none_twice_where_the_file_is_another_one(self):
        shelf = shelf_of("/f =one")
        shelf.close(shelf.hold(p("/f")))
        shelf.drop(p("/f"))
        shelf.make_file(p("/f"), "two")
        self.assertEqual(shelf.hold(p("/f")), 2)

    def test_handles_are_rising(self):
        shelf = sample()
        for turn in range(12):
            shelf.hold(p("/f"))
        for handle in [11, 3, 7, 1]:
            shelf.close(handle)
        self.assertEqual(shelf.handles(), [2, 4, 5, 6, 8, 9, 10, 12])

    def test_handles_are_a_list_of_its_own(self):
        shelf = sample()
        shelf.hold(p("/f"))
        told, again = shelf.handles(), shelf.handles()
        self.assertIsNot(told, again)
        told.append(9)
        again.clear()
        self.assertEqual(shelf.handles(), [1])
        told = shelf.handles()
        shelf.hold(p("/f"))
        self.assertEqual(told, [1])

    def test_close_tells_nothing(self):
        shelf = sample()
        self.assertIsNone(shelf.close(shelf.hold(p("/f"))))
        self.assertEqual(shelf.handles(), [])


class ByHandles(ShelfTest):
    def test_read(self):
        shelf = sample()
        handles = [shelf.hold(p(path)) for path in ["/f", "/x", "/a/b/f"]]
        self.assertEqual([shelf.read_by(handle) for handle in handles], ["top", "top", "deep"])
        shelf.write(p("/x"), "else")
        self.assertEqual([shelf.read_by(handle) for handle in handles], ["else", "else", "deep"])

    def test_write(self):
        shelf = sample()
        handle = shelf.hold(p("/x"))
        with self.changes(shelf, ["/f =top", "/x -> /f =top"], ["/f =by", "/x -> /f =by"]):
            self.assertIsNone(shelf.write_by(handle, "by"))
        self.assertEqual(shelf.read_by(handle), "by")

    def test_put(self):
        shelf = sample()
        handle = shelf.hold(p("/a/b/f"))
        self.assertIsNone(shelf.put_by(handle, 2, "XYZ"))
        self.assertEqual(shelf.text_of(p("/a/b/f")), "deXYZ")
        shelf.put_by(handle, 0, "D")
        self.assertEqual(shelf.text_of(p("/a/b/f")), "DeXYZ")
        shelf.put_by(handle, 7, "")
        self.assertEqual(shelf.text_of(p("/a/b/f")), "DeXYZ  ")
        shelf.put_by(handle, 200, "")
        self.assertEqual(len(shelf.read_by(handle)), 200)

    def test_put_is_too_long(self):
        shelf = sample()
        handle = shelf.hold(p("/f"))
        self.refused(TooLong, shelf.put_by, handle, 200, "t")
        self.refused(TooLong, shelf.put_by, handle, 0, "t" * 201)
        shelf.put_by(handle, 199, "t")

    def test_cut(self):
        shelf = sample()
        handle = shelf.hold(p("/f"))
        self.assertIsNone(shelf.cut_by(handle, 2))
        self.assertEqual(shelf.text_of(p("/x")), "to")
        shelf.cut_by(handle, 4)
        self.assertEqual(shelf.text_of(p("/x")), "to  ")

    def test_count(self):
        shelf = sample()
        handles = [shelf.hold(p(path)) for path in ["/f", "/x", "/a/b/f"]]
        self.assertEqual([shelf.count_by(handle) for handle in handles], [2, 2, 1])
        shelf.drop(p("/x"))
        shelf.drop(p("/a/b/f"))
        self.assertEqual([shelf.count_by(handle) for handle in handles], [1, 1, 0])

    def test_name(self):
        shelf = sample()
        handle = shelf.hold(p("/a/b/f"))
        with self.changes(shelf, [], ["/e/n -> /a/b/f =deep"]):
            self.assertIsNone(shelf.name_by(handle, p("/e/n")))
        self.assertEqual(shelf.count_by(handle), 2)

    def test_name_is_refused_as_link_is_for_other(self):
        shelf = sample()
        handle = shelf.hold(p("/f"))
        for error, other in [
                (NoThing, "/n/n"), (NoThing, "/f/n/n"), (WrongKind, "/f/n"), (WrongKind, "/a/g/n"), (Taken, "/f"),
                (Taken, "/x"), (Taken, "/a"), (Taken, "/a/g"), (Taken, "/")]:
            self.refused(error, shelf.name_by, handle, p(other))

    def test_handles_of_one_file_are_closed_one_by_one(self):
        shelf = sample()
        one, other = shelf.hold(p("/f")), shelf.hold(p("/f"))
        shelf.close(one)
        self.refused(NoHandle, shelf.read_by, one)
        self.assertEqual(shelf.read_by(other), "top")


class NotThere(ShelfTest):
    def calls(self, shelf, handle):
        return [
            (shelf.read_by, handle), (shelf.write_by, handle, "t"), (shelf.put_by, handle, 0, "t"),
            (shelf.cut_by, handle, 1), (shelf.count_by, handle), (shelf.name_by, handle, p("/n")),
            (shelf.close, handle)]

    def check(self, shelf, handle):
        for call in self.calls(shelf, handle):
            self.refused(NoHandle, *call)

    def test_one_that_was_never_told(self):
        self.check(Shelf(), 1)
        shelf = sample()
        shelf.hold(p("/f"))
        for handle in [0, 2, 99]:
            self.check(shelf, handle)

    def test_one_that_is_closed(self):
        shelf = sample()
        handle = shelf.hold(p("/f"))
        shelf.hold(p("/f"))
        shelf.close(handle)
        self.check(shelf, handle)

    def test_one_that_is_closed_of_a_file_without_a_name(self):
        shelf = sample()
        handle = shelf.hold(p("/a/b/f"))
        shelf.drop(p("/a/b/f"))
        shelf.close(handle)
        self.check(shelf, handle)

    def test_ahead_of_all_else(self):
        shelf = sample()
        self.refused(NoHandle, shelf.put_by, 1, 200, "t")
        self.refused(NoHandle, shelf.put_by, 1, 0, "t" * 201)
        for other in ["/n/n", "/f/n", "/f", "/a", "/"]:
            self.refused(NoHandle, shelf.name_by, 1, p(other))

    def test_of_another_shelf(self):
        shelf, other = sample(), sample()
        self.check(other, shelf.hold(p("/f")))


class GoingOn(ShelfTest):
    """A handle is of its file, whatever becomes of names."""

    def setUp(self):
        self.shelf = sample()
        self.handle = self.shelf.hold(p("/a/b/f"))

    def is_at(self, *paths):
        self.assertEqual(self.shelf.count_by(self.handle), len(paths))
        self.shelf.write_by(self.handle, "by the handle")
        told = [row[0] for row in self.shelf.walked() if row[2:3] == ("by the handle",)]
        self.assertEqual(told, [p(path) for path in paths])
        self.assertEqual(self.shelf.read_by(self.handle), "by the handle")

    def test_behind_a_drop(self):
        self.shelf.drop(p("/a/b/f"))
        self.is_at()

    def test_behind_a_drop_of_one_of_its_names(self):
        self.shelf.link(p("/a/b/f"), p("/n"))
        self.shelf.drop(p("/a/b/f"))
        self.is_at("/n")

    def test_behind_a_move(self):
        self.shelf.move(p("/a/b/f"), p("/n"))
        self.is_at("/n")

    def test_behind_a_move_of_a_folder_above(self):
        self.shelf.move(p("/a"), p("/e/n"))
        self.is_at("/e/n/b/f")

    def test_behind_a_move_of_another_file_over_it(self):
        self.shelf.move(p("/f"), p("/a/b/f"))
        self.is_at()
        self.assertEqual(self.shelf.text_of(p("/a/b/f")), "top")

    def test_behind_a_move_over_another_file(self):
        self.shelf.move(p("/a/b/f"), p("/f"))
        self.is_at("/f")

    def test_behind_a_swap(self):
        self.shelf.swap(p("/x"), p("/a/b/f"))
        self.is_at("/x")

    def test_behind_a_swap_of_a_folder_above(self):
        self.shelf.swap(p("/a"), p("/c"))
        self.is_at("/c/b/f")

    def test_behind_a_swap_with_a_folder(self):
        self.shelf.swap(p("/a/b/f"), p("/e"))
        self.is_at("/e")

    def test_where_its_name_is_of_another_file_then(self):
        self.shelf.drop(p("/a/b/f"))
        self.shelf.make_file(p("/a/b/f"), "new")
        self.is_at()
        self.assertEqual(self.shelf.text_of(p("/a/b/f")), "new")


class WithoutAName(ShelfTest):
    def setUp(self):
        self.shelf = sample()
        self.handle = self.shelf.hold(p("/a/b/f"))
        self.shelf.drop(p("/a/b/f"))

    def test_all_is_done_and_told_as_by_a_name(self):
        self.assertEqual(self.shelf.read_by(self.handle), "deep")
        self.shelf.put_by(self.handle, 5, "er")
        self.assertEqual(self.shelf.read_by(self.handle), "deep er")
        self.shelf.cut_by(self.handle, 2)
        self.assertEqual(self.shelf.read_by(self.handle), "de")
        self.shelf.write_by(self.handle, "w")
        self.assertEqual(self.shelf.read_by(self.handle), "w")
        self.assertEqual(self.shelf.count_by(self.handle), 0)
        self.refused(TooLong, self.shelf.put_by, self.handle, 200, "t")

    def test_it_is_not_among_the_things(self):
        self.assertNotIn("/a/b/f =deep", walk_texts(self.shelf))
        self.assertEqual(self.shelf.names_in(p("/a/b")), [])
        self.shelf.drop(p("/a/b"))

    def test_name_by_gives_a_name_again(self):
        self.shelf.write_by(self.handle, "kept")
        with self.changes(self.shelf, [], ["/e/n =kept"]):
            self.shelf.name_by(self.handle, p("/e/n"))
        self.assertEqual(self.shelf.count_by(self.handle), 1)
        self.shelf.write(p("/e/n"), "by name")
        self.assertEqual(self.shelf.read_by(self.handle), "by name")
        self.shelf.close(self.handle)
        self.assertEqual(self.shelf.text_of(p("/e/n")), "by name")

    def test_its_old_name_may_be_given_again(self):
        self.shelf.name_by(self.handle, p("/a/b/f"))
        self.assertEqual(walk_texts(self.shelf), walk_texts(sample()))

    def test_it_lives_as_long_as_one_handle_is_open(self):
        shelf = sample()
        one, other = shelf.hold(p("/a/b/f")), shelf.hold(p("/a/b/f"))
        shelf.drop(p("/a/b/f"))
        shelf.close(one)
        self.assertEqual(shelf.read_by(other), "deep")
        shelf.name_by(other, p("/n"))
        self.assertEqual(shelf.text_of(p("/n")), "deep")

    def test_closing_changes_no_thing(self):
        walked = self.shelf.walked()
        self.shelf.close(self.handle)
        self.assertEqual(state_of(self.shelf)[0], walked)
        self.assertEqual(self.shelf.handles(), [])


if __name__ == "__main__":
    unittest.main()
