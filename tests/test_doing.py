"""Deeds as tuples, and copies of whole shelves."""

import inspect
import unittest

from overfold import errors
from overfold.doing import copied, done
from overfold.shelf import Shelf
from shelf_help import p, sample, shelf_of, state_of, walk_texts

# For each word a deed that is done on the held sample, and one that is refused there, with the class's name.
BOTH_WAYS = [
    (("make_folder", p("/n")), ("make_folder", p("/n/n")), "NoThing"),
    (("make_file", p("/n"), "t"), ("make_file", p("/f/n"), "t"), "WrongKind"),
    (("write", p("/f"), "t"), ("write", p("/a"), "t"), "WrongKind"),
    (("put", p("/f"), 2, "abc"), ("put", p("/f"), 199, "abc"), "TooLong"),
    (("cut", p("/f"), 2), ("cut", p("/n"), 2), "NoThing"),
    (("link", p("/f"), p("/n")), ("link", p("/f"), p("/a")), "Taken"),
    (("drop", p("/a/b/f")), ("drop", p("/a")), "NotEmpty"),
    (("move", p("/a"), p("/n")), ("move", p("/a"), p("/a/n")), "Within"),
    (("swap", p("/a"), p("/c")), ("swap", p("/"), p("/c")), "Within"),
    (("hold", p("/a/g")), ("hold", p("/a")), "WrongKind"),
    (("read_by", 1), ("read_by", 3), "NoHandle"),
    (("write_by", 1, "t"), ("write_by", 3, "t"), "NoHandle"),
    (("put_by", 1, 2, "abc"), ("put_by", 1, 199, "abc"), "TooLong"),
    (("cut_by", 1, 2), ("cut_by", 3, 2), "NoHandle"),
    (("count_by", 1), ("count_by", 3), "NoHandle"),
    (("name_by", 1, p("/n")), ("name_by", 1, p("/f")), "Taken"),
    (("close", 1), ("close", 3), "NoHandle"),
]
REFUSALS = ["NoThing", "WrongKind", "Within", "Taken", "NotEmpty", "TooLong", "TooDeep", "NoHandle", "NoRoom"]


def held_sample():
    shelf = sample()
    shelf.hold(p("/f"))
    shelf.hold(p("/a/b/f"))
    return shelf


class Refuser:
    """Refuses each drop with the class of that name, as a shelf or a top could."""

    def __init__(self, name):
        self.name = name

    def drop(self, path):
        raise getattr(errors, self.name)("words")


class Interface(unittest.TestCase):
    def test_arguments(self):
        self.assertEqual(list(inspect.signature(done).parameters), ["shelf", "deed"])
        self.assertEqual(list(inspect.signature(copied).parameters), ["shelf"])


class Done(unittest.TestCase):
    def test_every_word_stands_in_the_rows(self):
        self.assertEqual(len({good[0] for good, bad, name in BOTH_WAYS}), 17)

    def test_done_is_as_by_the_method(self):
        for good, bad, name in BOTH_WAYS:
            by_tuple, by_method = held_sample(), held_sample()
            told = getattr(by_method, good[0])(*good[1:])
            self.assertEqual(done(by_tuple, good), ("done", told), good)
            self.assertEqual(state_of(by_tuple), state_of(by_method), good)

    def test_what_is_told(self):
        told = {good[0]: done(held_sample(), good)[1] for good, bad, name in BOTH_WAYS}
        self.assertEqual((told.pop("hold"), told.pop("read_by"), told.pop("count_by")), (3, "top", 2))
        self.assertEqual(set(told.values()), {None})

    def test_the_words_change_what_they_say(self):
        for good, bad, name in BOTH_WAYS:
            shelf = held_sample()
            done(shelf, good)
            if good[0] in ("read_by", "count_by"):
                self.assertEqual(state_of(shelf), state_of(held_sample()), good)
            else:
                self.assertNotEqual(state_of(shelf), state_of(held_sample()), good)

    def test_refused(self):
        for good, bad, name in BOTH_WAYS:
            shelf = held_sample()
            self.assertEqual(done(shelf, bad), ("refused", name), bad)
            self.assertEqual(state_of(shelf), state_of(held_sample()), bad)

    def test_a_refused_hold_uses_up_no_number(self):
        shelf = held_sample()
        self.assertEqual(done(shelf, ("hold", p("/n"))), ("refused", "NoThing"))
        self.assertEqual(done(shelf, ("hold", p("/f"))), ("done", 3))

    def test_every_class_by_its_name(self):
        for name in REFUSALS:
            self.assertEqual(done(Refuser(name), ("drop", p("/a"))), ("refused", name))

    def test_too_deep(self):
        shelf = shelf_of(*[("/a" * count) for count in range(1, 9)], "/f =t")
        self.assertEqual(done(shelf, ("move", p("/f"), ("a",) * 9)), ("refused", "TooDeep"))

    def test_the_empty_text_and_nought_are_told(self):
        shelf = shelf_of("/f =")
        shelf.hold(p("/f"))
        self.assertEqual(done(shelf, ("read_by", 1)), ("done", ""))
        shelf.drop(p("/f"))
        self.assertEqual(done(shelf, ("count_by", 1)), ("done", 0))

    def test_the_deed_is_as_it_was(self):
        for good, bad, name in BOTH_WAYS:
            for deed in [good, bad]:
                handed = tuple(list(deed))
                done(held_sample(), handed)
                self.assertEqual(handed, deed)

    def test_one_deed_may_be_handed_in_twice(self):
        deed = ("make_folder", p("/n"))
        shelf = Shelf()
        self.assertEqual([done(shelf, deed), done(shelf, deed)], [("done", None), ("refused", "Taken")])
        self.assertEqual(done(Shelf(), deed), ("done", None))


class Copied(unittest.TestCase):
    def test_the_same_things(self):
        shelf = sample()
        twin = copied(shelf)
        self.assertIsInstance(twin, Shelf)
        self.assertIsNot(twin, shelf)
        self.assertEqual(state_of(twin), state_of(shelf))

    def test_of_an_empty_shelf(self):
        self.assertEqual(copied(Shelf()).walked(), [])

    def test_names_of_one_file_are_names_of_one(self):
        twin = copied(sample())
        self.assertIs(twin.same_file(p("/a/g"), p("/c/g")), True)
        twin.write(p("/x"), "both")
        self.assertEqual(twin.text_of(p("/f")), "both")

    def test_files_of_one_text_stay_two(self):
        twin = copied(shelf_of("/f =t", "/g =t", "/h -> /g"))
        self.assertIs(twin.same_file(p("/f"), p("/g")), False)
        self.assertIs(twin.same_file(p("/g"), p("/h")), True)

    def test_without_handles_and_files_without_a_name(self):
        shelf = held_sample()
        shelf.drop(p("/a/b/f"))
        twin = copied(shelf)
        self.assertEqual(twin.walked(), shelf.walked())
        self.assertEqual(twin.handles(), [])
        self.assertEqual(done(twin, ("read_by", 1)), ("refused", "NoHandle"))
        self.assertEqual(done(twin, ("name_by", 2, p("/n"))), ("refused", "NoHandle"))
        self.assertEqual(twin.hold(p("/f")), 1)
        self.assertEqual(shelf.handles(), [1, 2])

    def test_deeds_on_the_one_change_nothing_of_the_other(self):
        for good, bad, name in BOTH_WAYS:
            shelf = held_sample()
            twin = copied(shelf)
            before = state_of(twin)
            done(shelf, good)
            self.assertEqual(state_of(twin), before, good)
            shelf = sample()
            twin = copied(shelf)
            twin.hold(p("/f"))
            done(twin, good)
            self.assertEqual(state_of(shelf), state_of(sample()), good)

    def test_beneath_folders_too(self):
        shelf = sample()
        twin = copied(shelf)
        shelf.make_file(p("/a/b/n"), "new")
        twin.drop(p("/a/b/f"))
        self.assertEqual(shelf.names_in(p("/a/b")), ["f", "n"])
        self.assertEqual(twin.names_in(p("/a/b")), [])

    def test_a_copy_of_a_copy(self):
        self.assertEqual(walk_texts(copied(copied(sample()))), walk_texts(sample()))


if __name__ == "__main__":
    unittest.main()
