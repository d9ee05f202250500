"""Layers told as rows of deeds, and rows of deeds done on a top."""

from overfold.doing import done
from overfold.leasts import is_as_beneath, things_told
from overfold.paths import LETTERS, parent_of
from overfold.tops import Top
from overfold.tree import file_below, first_paths, folder_below, is_file, is_folder, thing_at, things_beneath
from overfold.views import fitted, root_of


def replayed(layers, room, deeds):
    top = Top(layers, room)
    told = []
    for deed in deeds:
        told.append(done(top, deed))
    return (top, told)


def deeds_for(layers, layer):
    ground = root_of(layers)
    return Rebuilding(ground, fitted(ground, layer, len(layers))).all_deeds()


# The ground is what the deeds find, the root what they leave. What stands otherwise there is first put aside in the
# root folder, under names that neither has, or dropped: so no place that is wanted is taken, no folder comes into
# itself, and nothing lies deeper than it does before or behind.
class Rebuilding:
    def __init__(self, ground, root):
        self.ground = ground
        self.root = root
        self.told = things_told(ground, (), root)
        self.goals = things_by_ground(ground, root)
        self.homes = names_that_stay(root, self.told)
        self.spares = spare_names(ground, root)
        self.aside = {}
        self.deeds = []

    def all_deeds(self):
        # From the greatest path down, so that a folder's turn comes when what must leave it has left.
        for path, thing in reversed(things_beneath(self.ground)):
            if not self.stays(path, thing):
                self.clear_away(path, thing)
        # Folders ahead of all files: a file's name that stays is at its place only when its folder is.
        for path, thing in self.told:
            if is_folder(thing):
                self.place_folder(path, thing)
        for path, thing in self.told:
            if is_file(thing):
                self.place_file(path, thing)
        self.write_texts()
        return self.deeds

    def stays(self, path, thing):
        folder = self.goals.get(thing_at(self.ground, parent_of(path)))
        if folder is None or thing not in self.goals:
            return False
        return folder.by_name.get(path[-1]) == self.goals[thing]

    def clear_away(self, path, thing):
        goal = self.goals.get(thing)
        # A file that keeps another name is found by that.
        if goal is None or goal in self.aside or goal in self.homes:
            self.deeds.append(("drop", path))
        else:
            self.aside[goal] = (self.spares[len(self.aside)],)
            self.deeds.append(("move", path, self.aside[goal]))

    def place_folder(self, path, folder):
        if folder in self.aside:
            self.deeds.append(("move", self.aside[folder], path))
        elif folder.beneath is None:
            self.deeds.append(("make_folder", path))

    def place_file(self, path, file):
        if file in self.homes:
            self.deeds.append(("link", self.homes[file], path))
            return
        if file in self.aside:
            self.deeds.append(("move", self.aside[file], path))
        else:
            self.deeds.append(("make_file", path, file.text))
        self.homes[file] = path

    def write_texts(self):
        for file, path in first_paths(self.root).items():
            if file.origin is not None and not is_as_beneath(self.ground, file):
                self.deeds.append(("write", path, file.text))


# What the ground's folders and files are to become: the root's own, by the thing that lies beneath each.
def things_by_ground(ground, root):
    goals = {ground: root}
    for path, thing in things_beneath(root):
        below = folder_below(ground, thing) if is_folder(thing) else file_below(ground, thing)
        if below is not None:
            goals[below] = thing
    return goals


def names_that_stay(root, told):
    rows = dict([(path, True) for path, thing in told])
    homes = {}
    for path, thing in things_beneath(root):
        if is_file(thing) and path not in rows:
            homes.setdefault(thing, path)
    return homes


# As many names as there are things that may have to be put aside.
def spare_names(ground, root):
    most = len(things_beneath(ground))
    spares = []
    number = 0
    while len(spares) < most:
        name = name_numbered(number)
        if name not in ground.by_name and name not in root.by_name:
            spares.append(name)
        number += 1
    return spares


def name_numbered(number):
    name = LETTERS[number % len(LETTERS)]
    rest = number // len(LETTERS)
    return name if rest == 0 else name_numbered(rest) + name
