"""The things of a shelf: folders within folders, and files, each with one or more names.

A tree is told by its root, a Folder. Each deed here asks for all its refusals first, in the order that the document
gives them, so that a refused one leaves the tree as it was.
"""

from overfold.errors import NoThing, NotEmpty, Taken, TooDeep, Within, WrongKind
from overfold.paths import MOST_NAMES, is_beneath, parent_of, path_text


# What lies beneath is told by a path in the shelf beneath, not by the thing there: so a thing that moves keeps it, and
# no tree holds on to another one. What is newly made has none.
class Folder:
    def __init__(self):
        self.by_name = {}
        self.beneath = None


# A file doesn't know its names: it lives on where it has none, as long as somebody holds it.
class File:
    def __init__(self, text):
        self.text = text
        self.origin = None


def is_folder(thing):
    return isinstance(thing, Folder)


def is_file(thing):
    return isinstance(thing, File)


def thing_at(root, path):
    thing = root
    for name in path:
        if not is_folder(thing) or name not in thing.by_name:
            return None
        thing = thing.by_name[name]
    return thing


# The ground is the root of the shelf beneath.
def folder_below(ground, folder):
    return None if folder.beneath is None else thing_at(ground, folder.beneath)


def file_below(ground, file):
    return None if file.origin is None else thing_at(ground, file.origin)


def kind_at(root, path):
    thing = thing_at(root, path)
    if thing is None:
        return None
    return "folder" if is_folder(thing) else "file"


def found_thing(root, path):
    thing = thing_at(root, path)
    if thing is None:
        where = path_text(path)
        raise NoThing(f"nothing is at {where}")
    return thing


def found_folder(root, path):
    thing = found_thing(root, path)
    if not is_folder(thing):
        where = path_text(path)
        raise WrongKind(f"a file is at {where}, not a folder")
    return thing


def found_file(root, path):
    thing = found_thing(root, path)
    if not is_file(thing):
        where = path_text(path)
        raise WrongKind(f"a folder is at {where}, not a file")
    return thing


def names_within(folder):
    return sorted(folder.by_name)


# Sorted names, each folder ahead of what it holds, are just the order of paths as tuples.
def things_beneath(folder):
    found = []
    for name in names_within(folder):
        thing = folder.by_name[name]
        found.append(((name,), thing))
        if is_folder(thing):
            found.extend([((name,) + path, inner) for path, inner in things_beneath(thing)])
    return found


def paths_of(root, thing):
    return [path for path, other in things_beneath(root) if other == thing]


# Paths come rising, so the one that a file is met by first is the least of its names.
def first_paths(root):
    firsts = {}
    for path, thing in things_beneath(root):
        if is_file(thing):
            firsts.setdefault(thing, path)
    return firsts


def same_file_at(root, path, other):
    thing = thing_at(root, path)
    return is_file(thing) and thing == thing_at(root, other)


def height_of(thing):
    if not is_folder(thing):
        return 0
    return max([len(path) for path, inner in things_beneath(thing)], default=0)


def refuse_root(path):
    if path == ():
        raise Within("the root keeps its place")


def refuse_full(thing, path):
    if is_folder(thing) and len(thing.by_name) > 0:
        where = path_text(path)
        raise NotEmpty(f"the folder {where} isn't empty")


def refuse_beneath(path, other):
    if is_beneath(path, other):
        where = path_text(path)
        above = path_text(other)
        raise Within(f"{where} is beneath {above}")


def refuse_depth(thing, path):
    if len(path) + height_of(thing) > MOST_NAMES:
        where = path_text(path)
        raise TooDeep(f"a path at {where} or beneath it would have too many names")


def refuse_in_place_of(thing, other_thing, other):
    if other_thing is None:
        return
    if is_folder(thing) != is_folder(other_thing):
        where = path_text(other)
        raise WrongKind(f"a thing of the other kind is at {where}")
    refuse_full(other_thing, other)


def add_name(root, path, thing):
    folder = found_folder(root, parent_of(path))
    if thing_at(root, path) is not None:
        where = path_text(path)
        raise Taken(f"something is at {where}")
    folder.by_name[path[-1]] = thing


def link_name(root, path, other):
    add_name(root, other, found_file(root, path))


def drop_name(root, path):
    refuse_root(path)
    refuse_full(found_thing(root, path), path)
    folder = found_folder(root, parent_of(path))
    folder.by_name.pop(path[-1])


def move_name(root, path, other):
    refuse_root(path)
    refuse_root(other)
    thing = found_thing(root, path)
    goal = found_folder(root, parent_of(other))
    other_thing = thing_at(root, other)
    if other_thing == thing:
        return
    refuse_beneath(other, path)
    refuse_in_place_of(thing, other_thing, other)
    refuse_depth(thing, other)
    source = found_folder(root, parent_of(path))
    source.by_name.pop(path[-1])
    goal.by_name[other[-1]] = thing


def swap_names(root, path, other):
    refuse_root(path)
    refuse_root(other)
    thing = found_thing(root, path)
    other_thing = found_thing(root, other)
    if other_thing == thing:
        return
    refuse_beneath(path, other)
    refuse_beneath(other, path)
    refuse_depth(thing, other)
    refuse_depth(other_thing, path)
    folder = found_folder(root, parent_of(path))
    other_folder = found_folder(root, parent_of(other))
    folder.by_name[path[-1]] = other_thing
    other_folder.by_name[other[-1]] = thing
