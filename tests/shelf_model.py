"""A model of a shelf that knows paths alone and asks the document's rows one by one, and deeds that come by chance.

The model keeps no folders within folders: one dict from each path to "folder" or to a file's number.
"""

from overfold.doing import done
from overfold.shelf import Shelf
from shelf_help import p


class Refused(Exception):
    pass


class Model:
    def __init__(self):
        self.things, self.texts, self.held, self.opened = {(): "folder"}, [], {}, 0

    def asked(self, refusals):
        for name, met in refusals:
            if met():
                raise Refused(name)

    def is_file(self, path):
        return isinstance(self.things.get(path), int)

    def beneath(self, path):
        return [at for at in self.things if len(at) > len(path) and at[:len(path)] == path]

    def of_file(self, path):
        return [("NoThing", lambda: path not in self.things), ("WrongKind", lambda: not self.is_file(path))]

    def of_parent(self, path):
        return [("NoThing", lambda: path[:-1] not in self.things), ("WrongKind", lambda: self.is_file(path[:-1]))]

    def of_new(self, path):
        return self.of_parent(path) + [("Taken", lambda: path in self.things)]

    def of_handle(self, handle):
        return [("NoHandle", lambda: handle not in self.held)]

    def put_in(self, file, place, text):
        old = list(self.texts[file].ljust(place + len(text)))
        old[place:place + len(text)] = list(text)
        self.asked([("TooLong", lambda: len(old) > 200)])
        self.texts[file] = "".join(old)

    def cut_in(self, file, size):
        self.texts[file] = (self.texts[file] + " " * size)[:size]

    def make_folder(self, path):
        self.asked(self.of_new(path))
        self.things[path] = "folder"

    def make_file(self, path, text):
        self.asked(self.of_new(path))
        self.texts.append(text)
        self.things[path] = len(self.texts) - 1

    def write(self, path, text):
        self.asked(self.of_file(path))
        self.texts[self.things[path]] = text

    def put(self, path, place, text):
        self.asked(self.of_file(path))
        self.put_in(self.things[path], place, text)

    def cut(self, path, size):
        self.asked(self.of_file(path))
        self.cut_in(self.things[path], size)

    def link(self, path, other):
        self.asked(self.of_file(path) + self.of_new(other))
        self.things[other] = self.things[path]

    def drop(self, path):
        self.asked([("Within", lambda: path == ()), ("NoThing", lambda: path not in self.things),
                    ("NotEmpty", lambda: self.beneath(path) != [])])
        self.things.pop(path)

    def is_one(self, path, other):
        return path == other or self.is_file(path) and self.things[path] == self.things.get(other)

    def too_deep(self, path, other):
        return len(other) + max([len(at) - len(path) for at in self.beneath(path)], default=0) > 8

    def move(self, path, other):
        self.asked([("Within", lambda: () in (path, other)), ("NoThing", lambda: path not in self.things)])
        self.asked(self.of_parent(other))
        if self.is_one(path, other):
            return
        self.asked([
            ("Within", lambda: other[:len(path)] == path),
            ("WrongKind", lambda: other in self.things and self.is_file(path) != self.is_file(other)),
            ("NotEmpty", lambda: self.beneath(other) != []), ("TooDeep", lambda: self.too_deep(path, other))])
        moved = {at: self.things.pop(at) for at in [path] + self.beneath(path)}
        self.things.update({other + at[len(path):]: thing for at, thing in moved.items()})

    def swap(self, path, other):
        self.asked([("Within", lambda: () in (path, other)), ("NoThing", lambda: path not in self.things),
                    ("NoThing", lambda: other not in self.things)])
        if self.is_one(path, other):
            return
        self.asked([("Within", lambda: path in self.beneath(other) or other in self.beneath(path)),
                    ("TooDeep", lambda: self.too_deep(path, other) or self.too_deep(other, path))])
        one = {at: self.things.pop(at) for at in [path] + self.beneath(path)}
        two = {at: self.things.pop(at) for at in [other] + self.beneath(other)}
        self.things.update({other + at[len(path):]: thing for at, thing in one.items()})
        self.things.update({path + at[len(other):]: thing for at, thing in two.items()})

    def hold(self, path):
        self.asked(self.of_file(path))
        self.opened += 1
        self.held[self.opened] = self.things[path]
        return self.opened

    def read_by(self, handle):
        self.asked(self.of_handle(handle))
        return self.texts[self.held[handle]]

    def write_by(self, handle, text):
        self.asked(self.of_handle(handle))
        self.texts[self.held[handle]] = text

    def put_by(self, handle, place, text):
        self.asked(self.of_handle(handle))
        self.put_in(self.held[handle], place, text)

    def cut_by(self, handle, size):
        self.asked(self.of_handle(handle))
        self.cut_in(self.held[handle], size)

    def count_by(self, handle):
        self.asked(self.of_handle(handle))
        return len(self.names_of(self.held[handle]))

    def name_by(self, handle, other):
        self.asked(self.of_handle(handle) + self.of_new(other))
        self.things[other] = self.held[handle]

    def close(self, handle):
        self.asked(self.of_handle(handle))
        self.held.pop(handle)

    def names_of(self, file):
        return sorted(at for at, thing in self.things.items() if thing == file)

    def done(self, deed):
        try:
            return ("done", getattr(self, deed[0])(*deed[1:]))
        except Refused as refusal:
            return ("refused", str(refusal))

    def walked(self):
        told = []
        for path in sorted(self.things):
            thing = self.things[path]
            if thing == "folder":
                told.append((path, "folder"))
            else:
                told.append((path, "file", self.texts[thing], self.names_of(thing)[0]))
        return told[1:]

    def count_of(self, path):
        return len(self.names_of(self.things[path]))

    def kind_of(self, path):
        return None if path not in self.things else "file" if self.is_file(path) else "folder"

    def names_in(self, path):
        return sorted(at[-1] for at in self.things if at != () and at[:-1] == path)


def both_of(*rows):
    """A shelf and a model with the same things, made by the same deeds."""
    shelf, model = Shelf(), Model()
    for row in rows:
        path, sign, rest = row.partition(" ")
        if rest.startswith("="):
            deed = ("make_file", p(path), rest[1:])
        elif rest.startswith("-> "):
            deed = ("link", p(rest[3:]), p(path))
        else:
            deed = ("make_folder", p(path))
        assert done(shelf, deed) == model.done(deed) == ("done", None), row
    return shelf, model


class Dice:
    """Numbers that come in the same row at each run."""

    def __init__(self, seed):
        self.state = seed

    def below(self, bound):
        self.state = (self.state * 6364136223846793005 + 1442695040888963407) % 2 ** 64
        return (self.state >> 33) % bound

    def one_of(self, values):
        return values[self.below(len(values))]

    def text(self):
        return "".join(self.one_of("ab =~") for turn in range(self.below(6)))


WORDS = ["make_folder", "make_file", "write", "put", "cut", "link", "drop", "move", "swap", "move", "swap", "hold",
         "read_by", "write_by", "put_by", "cut_by", "count_by", "name_by", "close"]


def a_path(dice, model):
    if dice.below(3) > 0:
        return dice.one_of(sorted(model.things))
    parent = dice.one_of(sorted(model.things)) if dice.below(8) else ("n",)
    return parent + (dice.one_of(["a", "b", "ab"]),)


def a_deed(dice, model):
    word = dice.one_of(WORDS)
    first = a_path(dice, model)
    if word.endswith("_by") or word == "close":
        first = dice.below(model.opened + 2)
    text = dice.text()
    return {
        "make_folder": (word, first), "make_file": (word, first, text), "write": (word, first, text),
        "put": (word, first, dice.one_of([0, 1, 3, 8, 196, 199, 200]), text),
        "cut": (word, first, dice.one_of([0, 2, 5, 9, 200])), "link": (word, first, a_path(dice, model)),
        "drop": (word, first), "move": (word, first, a_path(dice, model)),
        "swap": (word, first, a_path(dice, model)), "hold": (word, first), "read_by": (word, first),
        "write_by": (word, first, text), "put_by": (word, first, dice.one_of([0, 2, 7, 198]), text),
        "cut_by": (word, first, dice.one_of([0, 2, 6])), "count_by": (word, first),
        "name_by": (word, first, a_path(dice, model)), "close": (word, first)}[word]
