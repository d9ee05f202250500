"""What tests of stories use: rows and their answers side by side, and a model that tells a whole story by itself.

The model leans on the models of a top and of layers alone: it builds no tree and keeps no shelf.
"""

import copy
import unittest

from overfold.errors import BadRow
from overfold.layers import layer_text
from overfold.paths import path_text
from overfold.stories import run
from layer_help import BASE, Stack
from shelf_model import Refused
from top_model import TopModel, size_of

BASE_ROWS = ["layer"] + layer_text(BASE).split("\n") + ["end"]


def story(*rows):
    return "\n".join(rows)


class StoryTest(unittest.TestCase):
    def tells(self, head, *pairs):
        """Behind the head's rows each pair's row is answered by its text."""
        text = story(*head, *[row for row, answer in pairs])
        self.assertEqual(list(zip([row for row, answer in pairs], run(text))), list(pairs))
        self.assertEqual(len(run(text)), len(pairs))

    def bad(self, number, *rows):
        """The story of these rows is refused with BadRow alone, which bears that number."""
        with self.assertRaises(BadRow) as caught:
            run(story(*rows))
        self.assertIs(type(caught.exception), BadRow)
        self.assertEqual(caught.exception.row, number, rows)


def layer_rows(layers):
    rows = []
    for layer in layers:
        text = layer_text(layer)
        rows += ["layer"] + (text.split("\n") if text else []) + ["end"]
    return rows


def step_row(step):
    """A step as a row of a story writes it: ("put", ("a",), 3, "t") as "put /a 3 =t"."""
    words = [step[0]]
    for value in step[1:]:
        words.append(path_text(value) if isinstance(value, tuple) else
                     str(value) if isinstance(value, int) else "=" + value)
    return " ".join(words)


def least_of(layers, things, pairs):
    """The least layer over layers that shows these things: by path ("folder", beneath) or ("file", key of a pair)."""
    below, level, keys = Stack(layers), len(layers), list(pairs)
    rows = {path: (path, "folder", rest) if kind == "folder" else (path, "file", keys.index(rest))
            for path, (kind, rest) in things.items() if path != ()}
    for path, (kind, beneath) in things.items():
        for name in below.names(level, beneath) if kind == "folder" and beneath is not None else []:
            rows.setdefault(path + (name,), (path + (name,), "gone"))
    layer = tuple(rows[path] for path in sorted(rows)), tuple(pairs[key] for key in keys)
    return Stack(layers + [layer]).least()


def pressed_model(layers, at):
    """The one layer that the layers at and at + 1 become."""
    stack, level = Stack(layers[:at + 2]), at + 2
    things, pairs = {}, {}
    for path in [()] + stack.paths(level):
        kind, rest = stack.look(level, path)
        if kind == "folder":
            things[path] = (kind, None if rest is None else stack.look(level - 1, rest)[1])
        else:
            below = stack.look(level - 1, rest[1])[1] if rest[0] == "of" else ("own", 0)
            things[path] = (kind, rest)
            pairs[rest] = (below[1] if below[0] == "of" else None, stack.text(level, rest))
    return least_of(layers[:at], things, pairs)


class StoryModel:
    def __init__(self, layers, room):
        self.layers, self.room, self.top = list(layers), room, TopModel(layers)

    def answer(self, step):
        try:
            way = getattr(self, "tell_" + step[0], None)
            return self.deed(step) if way is None else way(*step[1:])
        except Refused as refusal:
            return "refused " + str(refusal)

    def deed(self, step):
        ahead = copy.deepcopy(self.top)
        answer = self.top.done(step)
        if answer[0] == "refused":
            return "refused " + answer[1]
        if self.used() > self.room:
            self.top = ahead
            return "refused NoRoom"
        words = {"hold": f"done {answer[1]}", "read_by": f"={answer[1]}", "count_by": f"{answer[1]}"}
        return words.get(step[0], "done")

    def told(self):
        top = self.top
        things = {path: ("folder", top.beneaths[path]) if thing == "folder" else ("file", thing)
                  for path, thing in top.things.items()}
        pairs = {thing: (top.origins.get(thing), top.texts[thing])
                 for thing in top.things.values() if thing != "folder"}
        return least_of(self.layers, things, pairs)

    def used(self):
        return size_of(self.told()) + self.top.room_without_names()

    def tell_kind(self, path):
        return self.top.kind_of(path) or "none"

    def tell_text(self, path):
        self.top.asked(self.top.of_file(path))
        return "=" + self.top.texts[self.top.things[path]]

    def tell_names(self, path):
        self.top.asked([("NoThing", lambda: path not in self.top.things),
                        ("WrongKind", lambda: self.top.is_file(path))])
        return " ".join(self.top.names_in(path))

    def tell_count(self, path):
        self.top.asked(self.top.of_file(path))
        return str(self.top.count_of(path))

    def tell_same(self, path, other):
        return "yes" if self.top.is_file(path) and self.top.things[path] == self.top.things.get(other) else "no"

    def tell_walk(self):
        return " ".join("/" + "/".join(row[0]) + ("" if row[1] == "folder" else "=/" + "/".join(row[3]))
                        for row in self.top.walked())

    def tell_used(self):
        return str(self.used())

    def tell_free(self):
        return str(self.room - self.used())

    def tell_layer(self):
        return "; ".join(layer_text(self.told()).split("\n"))

    def tell_held(self, path):
        self.top.asked([("NoThing", lambda: path not in self.top.things)])
        told = Stack(self.layers + [self.told()]).held_by(path)
        return " ".join(map(str, told)) if isinstance(told, list) else str(told)

    def tell_press(self, at):
        self.layers[at:at + 2] = [pressed_model(self.layers, at)]
        return "done"

    def tell_seal(self):
        self.layers.append(self.told())
        self.top = TopModel(self.layers)
        return "done"
