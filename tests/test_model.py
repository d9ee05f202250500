"""Long rows of deeds on a shelf, held against a model that knows paths alone and asks the document's rows one by one.

The model keeps no folders within folders: one dict from each path to "folder" or to a file's number.
"""

import itertools
import unittest

from overfold.doing import copied, done
from overfold.shelf import Shelf
from shelf_help import chain, p, shelf_of


class Refused(Exception):
    pass


class Model:
    def __init__(self):
        self.things, self.texts, self.held, self.opened = {(): "folder"}, [], {}, 0

    def asked(self, refusals):
        for name, met in refusals:
            if met():
                raise Refused(name)

    def is_file(self, path):
        return isinstance(self.things.get(path), int)

    def beneath(self, path):
        return [at for at in self.things if len(at) > len(path) and at[:len(path)] == path]

    def of_file(self, path):
        return [("NoThing", lambda: path not in self.things), ("WrongKind", lambda: not self.is_file(path))]

    def of_parent(self, path):
        return [("NoThing", lambda: path[:-1] not in self.things), ("WrongKind", lambda: self.is_file(path[:-1]))]

    def of_new(self, path):
        return self.of_parent(path) + [("Taken", lambda: path in self.things)]

    def of_handle(self, handle):
        return [("NoHandle", lambda: handle not in self.held)]

    def put_in(self, file, place, text):
        old = list(self.texts[file].ljust(place + len(text)))
        old[place:place + len(text)] = list(text)
        self.asked([("TooLong", lambda: len(old) > 200)])
        self.texts[file] = "".join(old)

    def cut_in(self, file, size):
        self.texts[file] = (self.texts[file] + " " * size)[:size]

    def make_folder(self, path):
        self.asked(self.of_new(path))
        self.things[path] = "folder"

    def make_file(self, path, text):
        self.asked(self.of_new(path))
        self.texts.append(text)
        self.things[path] = len(self.texts) - 1

    def write(self, path, text):
        self.asked(self.of_file(path))
        self.texts[self.things[path]] = text

    def put(self, path, place, text):
        self.asked(self.of_file(path))
        self.put_in(self.things[path], place, text)

    def cut(self, path, size):
        self.asked(self.of_file(path))
        self.cut_in(self.things[path], size)

    def link(self, path, other):
        self.asked(self.of_file(path) + self.of_new(other))
        self.things[other] = self.things[path]

    def drop(self, path):
        self.asked([("Within", lambda: path == ()), ("NoThing", lambda: path not in self.things),
                    ("NotEmpty", lambda: self.beneath(path) != [])])
        self.things.pop(path)

    def is_one(self, path, other):
        return path == other or self.is_file(path) and self.things[path] == self.things.get(other)

    def too_deep(self, path, other):
        return len(other) + max([len(at) - len(path) for at in self.beneath(path)], default=0) > 8

    def move(self, path, other):
        self.asked([("Within", lambda: () in (path, other)), ("NoThing", lambda: path not in self.things)])
        self.asked(self.of_parent(other))
        if self.is_one(path, other):
            return
        self.asked([
            ("Within", lambda: other[:len(path)] == path),
            ("WrongKind", lambda: other in self.things and self.is_file(path) != self.is_file(other)),
            ("NotEmpty", lambda: self.beneath(other) != []), ("TooDeep", lambda: self.too_deep(path, other))])
        moved = {at: self.things.pop(at) for at in [path] + self.beneath(path)}
        self.things.update({other + at[len(path):]: thing for at, thing in moved.items()})

    def swap(self, path, other):
        self.asked([("Within", lambda: () in (path, other)), ("NoThing", lambda: path not in self.things),
                    ("NoThing", lambda: other not in self.things)])
        if self.is_one(path, other):
            return
        self.asked([("Within", lambda: path in self.beneath(other) or other in self.beneath(path)),
                    ("TooDeep", lambda: self.too_deep(path, other) or self.too_deep(other, path))])
        one = {at: self.things.pop(at) for at in [path] + self.beneath(path)}
        two = {at: self.things.pop(at) for at in [other] + self.beneath(other)}
        self.things.update({other + at[len(path):]: thing for at, thing in one.items()})
        self.things.update({path + at[len(other):]: thing for at, thing in two.items()})

    def hold(self, path):
        self.asked(self.of_file(path))
        self.opened += 1
        self.held[self.opened] = self.things[path]
        return self.opened

    def read_by(self, handle):
        self.asked(self.of_handle(handle))
        return self.texts[self.held[handle]]

    def write_by(self, handle, text):
        self.asked(self.of_handle(handle))
        self.texts[self.held[handle]] = text

    def put_by(self, handle, place, text):
        self.asked(self.of_handle(handle))
        self.put_in(self.held[handle], place, text)

    def cut_by(self, handle, size):
        self.asked(self.of_handle(handle))
        self.cut_in(self.held[handle], size)

    def count_by(self, handle):
        self.asked(self.of_handle(handle))
        return len(self.names_of(self.held[handle]))

    def name_by(self, handle, other):
        self.asked(self.of_handle(handle) + self.of_new(other))
        self.things[other] = self.held[handle]

    def close(self, handle):
        self.asked(self.of_handle(handle))
        self.held.pop(handle)

    def names_of(self, file):
        return sorted(at for at, thing in self.things.items() if thing == file)

    def done(self, deed):
        try:
            return ("done", getattr(self, deed[0])(*deed[1:]))
        except Refused as refusal:
            return ("refused", str(refusal))

    def walked(self):
        told = []
        for path in sorted(self.things):
            thing = self.things[path]
            if thing == "folder":
                told.append((path, "folder"))
            else:
                told.append((path, "file", self.texts[thing], self.names_of(thing)[0]))
        return told[1:]

    def count_of(self, path):
        return len(self.names_of(self.things[path]))

    def kind_of(self, path):
        return None if path not in self.things else "file" if self.is_file(path) else "folder"

    def names_in(self, path):
        return sorted(at[-1] for at in self.things if at != () and at[:-1] == path)


def both_of(*rows):
    """A shelf and a model with the same things, made by the same deeds."""
    shelf, model = Shelf(), Model()
    for row in rows:
        path, sign, rest = row.partition(" ")
        if rest.startswith("="):
            deed = ("make_file", p(path), rest[1:])
        elif rest.startswith("-> "):
            deed = ("link", p(rest[3:]), p(path))
        else:
            deed = ("make_folder", p(path))
        assert done(shelf, deed) == model.done(deed) == ("done", None), row
    return shelf, model


class ModelTest(unittest.TestCase):
    def same(self, shelf, model, deed):
        self.assertEqual(shelf.walked(), model.walked(), deed)
        self.assertEqual(shelf.handles(), sorted(model.held), deed)
        for handle in model.held:
            self.assertEqual(shelf.read_by(handle), model.read_by(handle), deed)
            self.assertEqual(shelf.count_by(handle), model.count_by(handle), deed)
        for path, thing in model.things.items():
            self.assertEqual(shelf.kind_of(path), model.kind_of(path), deed)
            if thing == "folder":
                self.assertEqual(shelf.names_in(path), model.names_in(path), deed)
            else:
                self.assertEqual(shelf.text_of(path), model.texts[thing], deed)
                self.assertEqual(shelf.count_of(path), model.count_of(path), deed)


SMALL = [
    ["/a", "/a/a", "/a/b =one", "/b", "/f =two", "/g -> /f"],
    ["/a", "/a/a", "/a/a/a =one", "/a/f -> /a/a/a", "/b", "/b/a", "/f -> /a/f"],
    ["/a", "/b =one", "/g", "/f -> /b", "/a/b", "/a/b/a"],
]
SMALL_PATHS = ["/", "/a", "/b", "/f", "/g", "/a/a", "/a/b", "/a/f", "/b/a", "/f/a", "/a/a/a", "/a/b/a", "/f/a/a"]
DEEP = [chain("a", 8) + ["/b", "/b/b", "/b/b/b =t", "/c", "/f =u", "/a/a/a/a/a/a/a/f =v", "/a/a/a/a/a/a/b"]]
DEEP_PATHS = chain("a", 9) + chain("b", 4) + [
    "/", "/c", "/f", "/n", "/a/a/a/a/a/a/a/f", "/a/a/a/a/a/a/a/f/n", "/a/a/a/a/a/a/a/n", "/a/a/a/a/a/a/b",
    "/a/a/a/a/a/a/b/n", "/a/a/a/a/a/n", "/a/a/a/a/a/n/n", "/a/b"]


class EveryPairOfPaths(ModelTest):
    def check(self, shelves, paths):
        told = {}
        for rows in shelves:
            for word, path, other in itertools.product(["move", "swap", "link"], paths, paths):
                shelf, model = both_of(*rows)
                deed = (word, p(path), p(other))
                answer = done(shelf, deed)
                self.assertEqual(answer, model.done(deed), deed)
                self.same(shelf, model, deed)
                told[(word, answer)] = True
        return [(word, answer[1] or "done") for word, answer in told]

    def test_small_shelves(self):
        told = self.check(SMALL, SMALL_PATHS)
        self.assertEqual(sorted(told), [
            ("link", "NoThing"), ("link", "Taken"), ("link", "WrongKind"), ("link", "done"), ("move", "NoThing"),
            ("move", "NotEmpty"), ("move", "Within"), ("move", "WrongKind"), ("move", "done"), ("swap", "NoThing"),
            ("swap", "Within"), ("swap", "done")])

    def test_a_deep_shelf(self):
        told = self.check(DEEP, DEEP_PATHS)
        self.assertIn(("move", "TooDeep"), told)
        self.assertIn(("swap", "TooDeep"), told)
        self.assertIn(("move", "done"), told)
        self.assertIn(("swap", "done"), told)


class Dice:
    """Numbers that come in the same row at each run."""

    def __init__(self, seed):
        self.state = seed

    def below(self, bound):
        self.state = (self.state * 6364136223846793005 + 1442695040888963407) % 2 ** 64
        return (self.state >> 33) % bound

    def one_of(self, values):
        return values[self.below(len(values))]


class LongRows(ModelTest):
    WORDS = ["make_folder", "make_file", "write", "put", "cut", "link", "drop", "move", "swap", "move", "swap", "hold",
             "read_by", "write_by", "put_by", "cut_by", "count_by", "name_by", "close"]

    def a_path(self, dice, model):
        if dice.below(3) > 0:
            return dice.one_of(sorted(model.things))
        parent = dice.one_of(sorted(model.things)) if dice.below(8) else ("n",)
        return parent + (dice.one_of(["a", "b", "ab"]),)

    def a_deed(self, dice, model):
        word = dice.one_of(self.WORDS)
        first = self.a_path(dice, model)
        if word.endswith("_by") or word == "close":
            first = dice.below(model.opened + 2)
        text = "".join(dice.one_of("ab =~") for turn in range(dice.below(6)))
        return {
            "make_folder": (word, first), "make_file": (word, first, text), "write": (word, first, text),
            "put": (word, first, dice.one_of([0, 1, 3, 8, 196, 199, 200]), text),
            "cut": (word, first, dice.one_of([0, 2, 5, 9, 200])), "link": (word, first, self.a_path(dice, model)),
            "drop": (word, first), "move": (word, first, self.a_path(dice, model)),
            "swap": (word, first, self.a_path(dice, model)), "hold": (word, first), "read_by": (word, first),
            "write_by": (word, first, text), "put_by": (word, first, dice.one_of([0, 2, 7, 198]), text),
            "cut_by": (word, first, dice.one_of([0, 2, 6])), "count_by": (word, first),
            "name_by": (word, first, self.a_path(dice, model)), "close": (word, first)}[word]

    def check(self, seed, rows, told):
        dice = Dice(seed)
        shelf, model = both_of(*rows)
        for turn in range(120):
            deed = self.a_deed(dice, model)
            answer = done(shelf, deed)
            self.assertEqual(answer, model.done(deed), deed)
            self.same(shelf, model, deed)
            told[(deed[0], answer[0] if answer[0] == "done" else answer[1])] = True
        self.assertEqual(copied(shelf).walked(), model.walked())

    def test_rows_of_deeds(self):
        told = {}
        for seed in range(40):
            self.check(seed, (SMALL + DEEP + [[]])[seed % 5], told)
        for word in self.WORDS:
            self.assertIn((word, "done"), told)
        # What the document names of refusals was met in these rows, all but a few pairs.
        self.assertGreater(len(told), 50)


class Samples(unittest.TestCase):
    def test_the_rows_make_what_they_say(self):
        for rows in SMALL + DEEP:
            shelf, model = both_of(*rows)
            self.assertEqual(shelf.walked(), shelf_of(*rows).walked())
            self.assertEqual(len(shelf.walked()), len(rows))


if __name__ == "__main__":
    unittest.main()
