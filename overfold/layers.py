"""Layers: what one shelf tells over another one, and how that is written row by row.

A layer is a pair of tuples, the rows of its entries and its files; DOC.md tells their forms.
"""

from overfold.errors import BadLayer
from overfold.paths import MOST_NAMES, parent_of, path_in, path_text, path_up_to
from overfold.texts import is_text, number_in

MOST_ROWS = 400
MOST_FILES = 200


def layer_text(layer):
    rows = [entry_text(entry) for entry in layer[0]] + [pair_text(pair) for pair in layer[1]]
    return "\n".join(rows)


def entry_text(entry):
    where = path_text(entry[0])
    if entry[1] == "gone":
        return f"gone {where}"
    if entry[1] == "file":
        number = entry[2]
        return f"file {where} {number}"
    if entry[2] is None:
        return f"folder {where} alone"
    beneath = path_text(entry[2])
    return f"folder {where} over {beneath}"


def pair_text(pair):
    written = "data"
    if pair[0] is not None:
        written += " of " + path_text(pair[0])
    if pair[1] is not None:
        written += " =" + pair[1]
    return written


def read_layer(text):
    reader = Reader()
    rows = [] if text == "" else text.split("\n")
    for at, row in enumerate(rows):
        if not reader.took_row(row):
            raise BadLayer(f"row {at} can't stand there", at)
    if not reader.is_whole():
        raise BadLayer("the rows and the files don't meet", len(rows))
    return reader.layer_read()


# Beside the rows taken so far it keeps what the next one is held against.
class Reader:
    def __init__(self):
        self.entries = []
        self.files = []
        self.last_path = ()
        self.folder_paths = {(): True}
        self.origins = {}
        self.numbers = {}

    def took_row(self, row):
        pair = pair_in(row)
        if pair is not None:
            return self.took_pair(pair)
        entry = entry_in(row)
        return entry is not None and self.took_entry(entry)

    def took_entry(self, entry):
        path = entry[0]
        if len(self.entries) == MOST_ROWS or len(self.files) > 0:
            return False
        # The root is the least path, so this refuses a row of the root, too.
        if path <= self.last_path or parent_of(path) not in self.folder_paths:
            return False
        self.entries.append(entry)
        self.last_path = path
        if entry[1] == "folder":
            self.folder_paths[path] = True
        if entry[1] == "file":
            self.numbers[entry[2]] = True
        return True

    def took_pair(self, pair):
        origin = pair[0]
        if len(self.files) == MOST_FILES or origin in self.origins:
            return False
        self.files.append(pair)
        if origin is not None:
            self.origins[origin] = True
        return True

    def is_whole(self):
        homeless = [at for at, pair in enumerate(self.files) if pair[0] is None and at not in self.numbers]
        return homeless == [] and all([number < len(self.files) for number in self.numbers])

    def layer_read(self):
        return (tuple(self.entries), tuple(self.files))


def entry_in(row):
    words = row.split(" ")
    if words[0] == "folder":
        return folder_in(words)
    if words[0] == "file":
        return file_in(words)
    if words[0] == "gone":
        return gone_in(words)
    return None


def folder_in(words):
    if len(words) < 3:
        return None
    path = path_in(words[1])
    if path is None:
        return None
    if words[2:] == ["alone"]:
        return (path, "folder", None)
    if len(words) != 4 or words[2] != "over":
        return None
    beneath = path_in(words[3])
    return None if beneath is None else (path, "folder", beneath)


def file_in(words):
    if len(words) != 3:
        return None
    path = path_in(words[1])
    number = number_in(words[2], MOST_FILES - 1)
    return None if path is None or number is None else (path, "file", number)


def gone_in(words):
    if len(words) != 2:
        return None
    # A folder of eight names may lie over one that has names within: these are hidden by nine names.
    path = path_up_to(words[1], MOST_NAMES + 1)
    return None if path is None else (path, "gone")


def pair_in(row):
    if row.startswith("data ="):
        text = row[len("data ="):]
        return (None, text) if is_text(text) else None
    if not row.startswith("data of "):
        return None
    parts = row[len("data of "):].partition(" =")
    origin = path_in(parts[0])
    if origin is None or origin == ():
        return None
    if parts[1] == "":
        return (origin, None)
    return (origin, parts[2]) if is_text(parts[2]) else None
