"""A model of a top: the model of a shelf, which also keeps each folder's folder beneath and each file's origin."""

from layer_help import Stack
from shelf_model import Model


class TopModel(Model):
    def __init__(self, layers):
        Model.__init__(self)
        self.beneaths, self.origins, self.ground_texts = {(): ()}, {}, {}
        numbers = {}
        for row in Stack(layers).walked():
            if row[1] == "folder":
                self.things[row[0]] = "folder"
                self.beneaths[row[0]] = row[0]
            else:
                if row[3] not in numbers:
                    numbers[row[3]] = len(self.texts)
                    self.origins[len(self.texts)] = row[3]
                    self.ground_texts[row[3]] = row[2]
                    self.texts.append(row[2])
                self.things[row[0]] = numbers[row[3]]

    def make_folder(self, path):
        Model.make_folder(self, path)
        self.beneaths[path] = None

    def drop(self, path):
        Model.drop(self, path)
        self.beneaths.pop(path, None)

    def move(self, path, other):
        changes = not self.is_one(path, other) if path in self.things else True
        Model.move(self, path, other)
        if changes:
            self.beneaths.pop(other, None)
            self.carry([(path, other)])

    def swap(self, path, other):
        changes = not self.is_one(path, other) if path in self.things else True
        Model.swap(self, path, other)
        if changes:
            self.carry([(path, other), (other, path)])

    def carry(self, ways):
        carried = {}
        for old, new in ways:
            for at in [at for at in self.beneaths if at[:len(old)] == old]:
                carried[new + at[len(old):]] = self.beneaths[at]
        for old, new in ways:
            for at in [at for at in self.beneaths if at[:len(old)] == old]:
                self.beneaths.pop(at)
        self.beneaths.update(carried)

    def traced(self):
        told = []
        for path in sorted(self.things):
            thing = self.things[path]
            if thing == "folder":
                told.append((path, "folder", self.beneaths[path]))
            else:
                told.append((path, "file", self.origins.get(thing), self.texts[thing]))
        return told[1:]

    def room_without_names(self):
        """What the files take that have a handle but no name."""
        used = 0
        for file in set(self.held.values()):
            origin = self.origins.get(file)
            if self.names_of(file) == [] and (origin is None or self.ground_texts[origin] != self.texts[file]):
                used += 1 + len(self.texts[file])
        return used

    def is_within_bounds(self):
        return len(self.things) <= 201 and max(len(path) for path in self.things) <= 8


def size_of(layer):
    """What used_room counts of a layer."""
    return len(layer[0]) + len(layer[1]) + sum(len(text) for origin, text in layer[1] if text is not None)
