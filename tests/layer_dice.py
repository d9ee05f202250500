"""Layers that come by chance, in the same row at each run."""

from overfold.doing import done
from overfold.paths import path_text
from overfold.tops import Top
from layer_help import BASE, Stack
from shelf_model import a_deed
from top_model import TopModel


class LayerMaker:
    """A layer of the right form over what some layers show; whether it fits is left to chance."""

    def __init__(self, dice, layers, wild):
        self.dice, self.wild = dice, wild
        stack = Stack(layers)
        told = stack.traced()
        self.folders = [row[0] for row in told if row[1] == "folder"]
        self.paths = [row[0] for row in told]
        self.firsts = sorted({row[3] for row in stack.walked() if row[1] == "file"})
        self.rows, self.pairs, self.over = {}, [], {(): ()}

    def made(self):
        for turn in range(2 + self.dice.below(16)):
            self.add_row(self.dice.one_of(sorted(self.over)))
        for turn in range(self.dice.below(3)):
            self.add_pair(True)
        entries = tuple(self.rows[path] for path in sorted(self.rows))
        return entries, tuple(self.pairs)

    def add_row(self, parent):
        path = parent + (self.a_name(parent),)
        if path in self.rows or len(path) > 8:
            return
        kind = self.dice.one_of(["folder", "folder", "folder", "file", "file", "gone", "carry", "carry"])
        if kind == "carry":
            self.carry(path)
        elif kind == "folder":
            self.over[path] = self.a_beneath(path)
            self.rows[path] = (path, "folder", self.over[path])
        elif kind == "file":
            self.rows[path] = (path, "file", self.a_number())
        else:
            self.rows[path] = (path, "gone")

    def a_name(self, parent):
        over = self.over[parent]
        names = [at[-1] for at in self.paths if over is not None and at[:-1] == over] + ["a", "b", "f", "n"]
        return self.dice.one_of(names)

    def carry(self, path):
        """A folder of the root's own under another path, with a mark where it was: such a row often fits."""
        tops = [at for at in self.folders if len(at) == 1 and at not in self.rows and at != path[:1]]
        if tops:
            goal = self.dice.one_of(tops)
            self.rows[goal] = (goal, "gone")
            self.over[path] = goal
            self.rows[path] = (path, "folder", goal)

    def a_beneath(self, path):
        over = self.over[path[:-1]]
        if over is not None and over + path[-1:] in self.folders and self.dice.below(4) > 0:
            return over + path[-1:]
        if self.wild and self.dice.below(6) == 0:
            return self.dice.one_of([()] + self.paths + [("q",)])
        return None

    def a_number(self):
        if self.pairs and self.dice.below(2):
            return self.dice.below(len(self.pairs))
        self.add_pair(False)
        return len(self.pairs) - 1

    def add_pair(self, rowless):
        free = [at for at in self.firsts if at not in [pair[0] for pair in self.pairs]]
        if free and (rowless or self.dice.below(2)):
            origin = self.dice.one_of(free)
            if self.wild and self.dice.below(6) == 0:
                origin = self.dice.one_of([at for at in self.paths if at not in [pair[0] for pair in self.pairs]])
            self.pairs.append((origin, self.dice.text() if self.dice.below(2) else None))
        elif not rowless:
            self.pairs.append((None, self.dice.text()))


def row_text(layers):
    """For the words of a test that failed."""
    return [[(path_text(row[0]),) + row[1:] for row in layer[0]] + list(layer[1]) for layer in layers]


def some_layers(dice, count):
    """Up to so many layers that fit one on the other."""
    layers = [BASE] if dice.below(2) else []
    for turn in range(count * 3):
        layer = LayerMaker(dice, layers, False).made()
        if len(layers) < count and Stack(layers + [layer]).misfit() is None:
            layers.append(layer)
    return layers


def layers_by_deeds(dice, count, turns):
    """So many layers, each told by a top behind a row of deeds, swaps and moves most of all."""
    layers = [BASE] if dice.below(2) else []
    while len(layers) < count:
        top, model = Top(layers, 10 ** 6), TopModel(layers)
        for turn in range(turns):
            deed = a_deed(dice, model)
            model.done(deed)
            done(top, deed)
        if model.is_within_bounds():
            layers.append(top.told_layer())
    return layers


def layers_of_both(dice, count):
    return some_layers(dice, count) if dice.below(2) else layers_by_deeds(dice, count, 5 + dice.below(60))
