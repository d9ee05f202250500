"""Tops: a shelf over layers that does as the plain shelf does, tells just what is otherwise, and keeps to its room."""

from overfold.errors import NoRoom
from overfold.holding import told_size
from overfold.laying import NO_ROWS, laid
from overfold.leasts import is_as_beneath, told_over
from overfold.shelf import shelf_with
from overfold.tree import first_paths, is_file, is_folder, things_beneath
from overfold.views import fitted, root_of


# The layers themselves are not kept: all that they tell a top is the ground, what they show.
class Top:
    def __init__(self, layers, room):
        self.ground = root_of(layers)
        self.shelf = shelf_with(laid(self.ground, NO_ROWS))
        self.room = room

    def make_folder(self, path):
        past = past_of(self.shelf)
        self.shelf.make_folder(path)
        self.keep_to_room(past)

    def make_file(self, path, text):
        past = past_of(self.shelf)
        self.shelf.make_file(path, text)
        self.keep_to_room(past)

    def write(self, path, text):
        past = past_of(self.shelf)
        self.shelf.write(path, text)
        self.keep_to_room(past)

    def put(self, path, place, text):
        past = past_of(self.shelf)
        self.shelf.put(path, place, text)
        self.keep_to_room(past)

    def cut(self, path, size):
        past = past_of(self.shelf)
        self.shelf.cut(path, size)
        self.keep_to_room(past)

    def link(self, path, other):
        past = past_of(self.shelf)
        self.shelf.link(path, other)
        self.keep_to_room(past)

    def drop(self, path):
        past = past_of(self.shelf)
        self.shelf.drop(path)
        self.keep_to_room(past)

    def move(self, path, other):
        past = past_of(self.shelf)
        self.shelf.move(path, other)
        self.keep_to_room(past)

    def swap(self, path, other):
        past = past_of(self.shelf)
        self.shelf.swap(path, other)
        self.keep_to_room(past)

    def write_by(self, handle, text):
        past = past_of(self.shelf)
        self.shelf.write_by(handle, text)
        self.keep_to_room(past)

    def put_by(self, handle, place, text):
        past = past_of(self.shelf)
        self.shelf.put_by(handle, place, text)
        self.keep_to_room(past)

    def cut_by(self, handle, size):
        past = past_of(self.shelf)
        self.shelf.cut_by(handle, size)
        self.keep_to_room(past)

    def name_by(self, handle, other):
        past = past_of(self.shelf)
        self.shelf.name_by(handle, other)
        self.keep_to_room(past)

    # From here on nothing takes room: what is held has a name, and what is closed may only give room back.
    def hold(self, path):
        return self.shelf.hold(path)

    def close(self, handle):
        self.shelf.close(handle)

    def read_by(self, handle):
        return self.shelf.read_by(handle)

    def count_by(self, handle):
        return self.shelf.count_by(handle)

    def handles(self):
        return self.shelf.handles()

    def kind_of(self, path):
        return self.shelf.kind_of(path)

    def text_of(self, path):
        return self.shelf.text_of(path)

    def names_in(self, path):
        return self.shelf.names_in(path)

    def count_of(self, path):
        return self.shelf.count_of(path)

    def same_file(self, path, other):
        return self.shelf.same_file(path, other)

    def walked(self):
        return self.shelf.walked()

    def told_layer(self):
        return told_over(self.ground, self.shelf.root)

    def used_room(self):
        nameless = files_without_name(self.shelf)
        return told_size(self.told_layer()) + sum([room_without_name(self.ground, file) for file in nameless])

    def free_room(self):
        return self.room - self.used_room()

    # What a deed takes is known only when it's done, and NoRoom comes behind all other refusals: so it is done first,
    # and taken back where the room isn't enough.
    def keep_to_room(self, past):
        if self.used_room() > self.room:
            bring_back(past)
            raise NoRoom("the top would tell more than it has room for")


def top_of(layers, layer, room):
    top = Top(layers, room)
    top.shelf = shelf_with(fitted(top.ground, layer, len(layers)))
    if top.used_room() > room:
        raise NoRoom("the layer tells more than the top has room for")
    return top


# All that a deed with names or texts may change: each folder's names and each file's text, held files' too.
def past_of(shelf):
    things = [shelf.root] + [thing for path, thing in things_beneath(shelf.root)]
    names = [(folder, dict(folder.by_name)) for folder in things if is_folder(folder)]
    files = [thing for thing in things if is_file(thing)] + list(shelf.held_files.values())
    return (names, [(file, file.text) for file in files])


def bring_back(past):
    for folder, by_name in past[0]:
        folder.by_name = by_name
    for file, text in past[1]:
        file.text = text


# A file that several handles are of is met once.
def files_without_name(shelf):
    named = first_paths(shelf.root)
    held = dict([(file, True) for file in shelf.held_files.values()])
    return [file for file in held if file not in named]


def room_without_name(ground, file):
    return 0 if is_as_beneath(ground, file) else 1 + len(file.text)
