"""What several tests of layers use: layers made of rows, and a model of what layers show that never builds a tree.

The model asks path by path, from the last layer down, what DOC.md's words say of that one path.
"""

import unittest

from overfold.errors import NoFit
from overfold.layers import read_layer
from overfold.paths import path_text


def lay(*rows):
    return read_layer("\n".join(rows))


EMPTY = ((), ())

# It shows what shelf_help.sample makes.
BASE = lay(
    "folder /a alone", "folder /a/b alone", "file /a/b/f 0", "file /a/g 1", "folder /c alone", "file /c/g 1",
    "folder /e alone", "file /f 2", "file /x 2", "data =deep", "data =one", "data =top")

# Two hundred names in one folder, as short as they come.
MANY_NAMES = [one + two for one in "abcdefgh" for two in "abcdefghijklmnopqrstuvwxy"]


class FitTest(unittest.TestCase):
    def no_fit(self, number, call, *handed):
        """The call is refused with NoFit alone, which bears that number."""
        with self.assertRaises(NoFit) as caught:
            call(*handed)
        self.assertIs(type(caught.exception), NoFit)
        self.assertEqual(caught.exception.number, number)


def trace_texts(rows):
    """traced in short: "/a over /c", "/a alone", "/f of /g =text", "/f =text"."""
    told = []
    for row in rows:
        if row[1] == "folder":
            rest = " alone" if row[2] is None else " over " + path_text(row[2])
        else:
            rest = ("" if row[2] is None else " of " + path_text(row[2])) + " =" + row[3]
        told.append(path_text(row[0]) + rest)
    return told


class Stack:
    """A level is how many layers are looked through; a file is known by its key, its number or its origin."""

    def __init__(self, layers):
        self.layers = list(layers)
        self.rows = [{row[0]: row for row in layer[0]} for layer in layers]
        self.kept = {}

    def once(self, question, answer):
        if question not in self.kept:
            self.kept[question] = answer()
        return self.kept[question]

    def look(self, level, path):
        """None, ("folder", beneath) or ("file", key)."""
        return self.once(("look", level, path), lambda: self.looked(level, path))

    def looked(self, level, path):
        if path == ():
            return ("folder", ())
        above = None if level == 0 else self.look(level, path[:-1])
        if above is None or above[0] == "file":
            return None
        row = self.rows[level - 1].get(path)
        if row is not None:
            return self.of_row(level, row)
        beneath = None if above[1] is None else above[1] + path[-1:]
        below = None if beneath is None else self.look(level - 1, beneath)
        if below is None:
            return None
        if below[0] == "folder":
            return ("folder", beneath)
        return ("file", ("of", self.first(level - 1, below[1])))

    def of_row(self, level, row):
        if row[1] == "gone":
            return None
        if row[1] == "folder":
            return ("folder", row[2])
        origin = self.layers[level - 1][1][row[2]][0]
        return ("file", ("own", row[2]) if origin is None else ("of", origin))

    def names(self, level, path):
        """The names in a folder, those that rows hide left out."""
        return [name for name in self.names_told(level, path) if self.look(level, path + (name,)) is not None]

    def names_told(self, level, path):
        if level == 0:
            return []
        beneath = self.look(level, path)[1]
        below = [] if beneath is None else self.names(level - 1, beneath)
        return sorted(set(below) | {at[-1] for at in self.rows[level - 1] if at[:-1] == path})

    def paths(self, level):
        return self.once(("paths", level), lambda: sorted(self.paths_in(level, ())))

    def paths_in(self, level, path):
        found = []
        for name in self.names(level, path):
            found.append(path + (name,))
            if self.look(level, path + (name,))[0] == "folder":
                found += self.paths_in(level, path + (name,))
        return found

    def first(self, level, key):
        return self.once(("first", level, key), lambda: min(self.paths_of(level, key)))

    def paths_of(self, level, key):
        return [path for path in self.paths(level) if self.look(level, path) == ("file", key)]

    def pair(self, level, key):
        """The layer's own pair for that file, or None."""
        files = self.layers[level - 1][1]
        if key[0] == "own":
            return files[key[1]]
        found = [pair for pair in files if pair[0] == key[1]]
        return found[0] if found else None

    def text(self, level, key):
        pair = self.pair(level, key)
        if pair is not None and pair[1] is not None:
            return pair[1]
        return self.text(level - 1, self.look(level - 1, key[1])[1])

    def traced(self):
        level, told = len(self.layers), []
        for path in self.paths(level):
            kind, rest = self.look(level, path)
            if kind == "folder":
                told.append((path, "folder", rest))
            else:
                told.append((path, "file", rest[1] if rest[0] == "of" else None, self.text(level, rest)))
        return told

    def walked(self):
        level, told = len(self.layers), []
        for path in self.paths(level):
            kind, rest = self.look(level, path)
            told.append((path, kind) if kind == "folder" else
                        (path, kind, self.text(level, rest), self.first(level, rest)))
        return told

    def misfit(self):
        """Of the last layer, where those ahead fit."""
        level = len(self.layers)
        entries, files = self.layers[-1]
        for row in entries:
            if row[1] == "folder" and row[2] is not None and (self.look(level - 1, row[2]) or "?")[0] != "folder":
                return ("entry", row[0])
        for number, (origin, text) in enumerate(files):
            found = None if origin is None else self.look(level - 1, origin) or ("folder", None)
            if found is not None and (found[0] == "folder" or self.first(level - 1, found[1]) != origin):
                return ("file", number)
        if len(self.paths(level)) > 200:
            return ("many",)
        if any(len(path) > 8 for path in self.paths(level)):
            return ("deep",)
        folders = [path for path in [()] + self.paths(level) if self.look(level, path)[0] == "folder"]
        for at, path in enumerate(folders):
            beneath = self.look(level, path)[1]
            if beneath is not None and beneath in [self.look(level, other)[1] for other in folders[:at]]:
                return ("twice", path)
        return None

    def needs_row(self, path):
        level = len(self.layers)
        beneath = self.look(level, path[:-1])[1]
        below = None if beneath is None else self.look(level - 1, beneath + path[-1:])
        here = self.look(level, path)
        if below is None or here is None:
            return here != below
        if here[0] != below[0]:
            return True
        if here[0] == "file":
            return here[1] != ("of", self.first(level - 1, below[1]))
        return here[1] != beneath + path[-1:] or self.rows_in(path) != []

    def rows_in(self, path):
        """The rows that must be told within a folder, rising."""
        level, found = len(self.layers), []
        beneath = self.look(level, path)[1]
        names = set(self.names(level, path)) | set(self.names(level - 1, beneath) if beneath is not None else [])
        for at in sorted(path + (name,) for name in names):
            if self.needs_row(at):
                found.append(at)
                found += self.rows_in(at) if (self.look(level, at) or "?")[0] == "folder" else []
        return found

    def least(self):
        level = len(self.layers)
        told = self.rows_in(())
        looked = [(path, self.look(level, path)) for path in told]
        keys = []
        for path in self.paths(level):
            kind, key = self.look(level, path)
            if kind == "file" and key not in keys and (("file", key) in [here for at, here in looked]
                                                       or self.text_told(level, key) is not None):
                keys.append(key)
        entries = tuple((path, "gone") if here is None else
                        (path, "folder", here[1]) if here[0] == "folder" else
                        (path, "file", keys.index(here[1])) for path, here in looked)
        files = tuple((key[1] if key[0] == "of" else None, self.text_told(level, key)) for key in keys)
        return entries, files

    def text_told(self, level, key):
        text = self.text(level, key)
        if key[0] == "own" or self.text(level - 1, self.look(level - 1, key[1])[1]) != text:
            return text
        return None

    def held_by(self, path):
        level = len(self.layers)
        kind, rest = self.look(level, path)
        if path == ():
            return list(range(level))
        if kind == "folder":
            return self.folder_rows(level, path)
        return self.text_layer(level, rest)

    def folder_rows(self, level, path):
        beneath = self.look(level, path)[1]
        lower = [] if beneath is None else self.folder_rows(level - 1, beneath)
        return lower + [level - 1] * (path in self.rows[level - 1])

    def text_layer(self, level, key):
        pair = self.pair(level, key)
        if pair is not None and pair[1] is not None:
            return level - 1
        return self.text_layer(level - 1, self.look(level - 1, key[1])[1])
