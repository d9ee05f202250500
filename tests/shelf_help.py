"""What several tests of shelves use: shelves made of short rows, and what a whole shelf tells."""

import unittest

from overfold.errors import ShelfError
from overfold.paths import path_in
from overfold.shelf import Shelf

SIGNS = "".join(chr(number) for number in range(32, 127) if number != 37)


def p(text):
    """The path that a text writes, also one of more than eight names."""
    return () if text == "/" else tuple(text[1:].split("/"))


def shelf_of(*rows):
    """Rows as "/a" (a folder), "/f =text" (a file) or "/g -> /f" (one more name)."""
    shelf = Shelf()
    for row in rows:
        path, sign, rest = row.partition(" ")
        assert path_in(path) is not None, row
        if rest.startswith("="):
            shelf.make_file(p(path), rest[1:])
        elif rest.startswith("-> "):
            shelf.link(p(rest[3:]), p(path))
        else:
            shelf.make_folder(p(path))
    return shelf


def chain(name, length):
    return [("/" + name) * count for count in range(1, length + 1)]


def sample():
    return shelf_of("/a", "/a/b", "/a/b/f =deep", "/a/g =one", "/c", "/c/g -> /a/g", "/e", "/f =top", "/x -> /f")


SAMPLE_PATHS = ["/a", "/a/b", "/a/b/f", "/a/g", "/c", "/c/g", "/e", "/f", "/x"]


def walk_texts(shelf):
    """walked in short: "/a" of a folder, "/f =text" of a file, "/g -> /f =text" of a name that isn't its first."""
    told = []
    for row in shelf.walked():
        where = "/" + "/".join(row[0])
        first = "" if row[1] == "folder" or row[3] == row[0] else " -> /" + "/".join(row[3])
        told.append(where + first + ("" if row[1] == "folder" else " =" + row[2]))
    return told


def state_of(shelf):
    """All that a shelf tells: its things, the counts of their names, and what stands behind each handle."""
    counts = [(row[0], shelf.count_of(row[0])) for row in shelf.walked() if row[1] == "file"]
    by_handles = [(handle, shelf.read_by(handle), shelf.count_by(handle)) for handle in shelf.handles()]
    return shelf.walked(), counts, by_handles


class ShelfTest(unittest.TestCase):
    def refused(self, error, call, *handed):
        """The call is refused with that class alone, and the shelf whose method it is stands as it stood."""
        shelf = call.__self__
        before = state_of(shelf)
        with self.assertRaises(ShelfError) as caught:
            call(*handed)
        self.assertIs(type(caught.exception), error, (call.__name__, handed))
        self.assertEqual(state_of(shelf), before, (call.__name__, handed))

    def changes(self, shelf, gone, come):
        """Of walk_texts just those rows go and come by what the caller does between two asks."""
        return Changes(self, shelf, gone, come)


class Changes:
    def __init__(self, test, shelf, gone, come):
        self.test, self.shelf, self.gone, self.come = test, shelf, gone, come

    def __enter__(self):
        self.before = walk_texts(self.shelf)

    def __exit__(self, kind, error, trace):
        if kind is None:
            after = walk_texts(self.shelf)
            self.test.assertEqual([row for row in self.before if row not in after], self.gone)
            self.test.assertEqual([row for row in after if row not in self.before], self.come)
