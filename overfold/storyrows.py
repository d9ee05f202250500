"""The rows of a story: layers, a room, and then deeds and asks, read row by row.

A step is a deed or an ask as a tuple: its word and what is handed to it, paths, numbers and texts, in order.
"""

from overfold.errors import BadRow
from overfold.layers import Reader
from overfold.paths import path_in
from overfold.texts import LONGEST_TEXT, is_text, number_in
from overfold.views import misfit

MOST_LAYERS = 6
MOST_NUMBER = 1000000

# What stands behind each word. A place, or a size, is at most as great as a text is long; a number counts other things.
FORMS = {
    "make_folder": ("path",),
    "make_file": ("path", "text"),
    "write": ("path", "text"),
    "put": ("path", "place", "text"),
    "cut": ("path", "place"),
    "link": ("path", "path"),
    "drop": ("path",),
    "move": ("path", "path"),
    "swap": ("path", "path"),
    "hold": ("path",),
    "read_by": ("number",),
    "write_by": ("number", "text"),
    "put_by": ("number", "place", "text"),
    "cut_by": ("number", "place"),
    "count_by": ("number",),
    "name_by": ("number", "path"),
    "close": ("number",),
    "kind": ("path",),
    "text": ("path",),
    "names": ("path",),
    "count": ("path",),
    "same": ("path", "path"),
    "walk": (),
    "used": (),
    "free": (),
    "layer": (),
    "held": ("path",),
    "press": ("number",),
    "seal": (),
}


# The layers, the room and the steps.
def read_story(text):
    reader = StoryReader()
    rows = text.split("\n")
    for at, row in enumerate(rows):
        if not reader.took_row(row):
            raise BadRow(f"row {at} can't stand there", at)
    # A layer that doesn't end has no room behind it either.
    if reader.room is None:
        raise BadRow("the room never comes", len(rows))
    return (reader.layers, reader.room, reader.steps)


class StoryReader:
    def __init__(self):
        self.layers = []
        self.layer_reader = None
        self.room = None
        self.steps = []
        # How many layers are there when the next step is done.
        self.layers_then = 0

    def took_row(self, row):
        if row == "":
            return True
        if self.layer_reader is not None:
            return self.took_layers_end() if row == "end" else self.layer_reader.took_row(row)
        if self.room is not None:
            return self.took_step(row)
        return self.took_layers_start() if row == "layer" else self.took_room(row)

    def took_layers_start(self):
        self.layer_reader = Reader()
        return self.layers_then < MOST_LAYERS

    def took_layers_end(self):
        layer = self.layer_reader.layer_read()
        if not self.layer_reader.is_whole() or misfit(self.layers, layer) is not None:
            return False
        self.layers.append(layer)
        self.layers_then += 1
        self.layer_reader = None
        return True

    def took_room(self, row):
        words = row.split(" ")
        if words[0] != "room" or len(words) != 2:
            return False
        self.room = number_in(words[1], MOST_NUMBER)
        return self.room is not None

    def took_step(self, row):
        step = step_in(row)
        if step is None:
            return False
        self.steps.append(step)
        if step[0] == "press":
            self.layers_then -= 1
            # Of the two that are pressed the upper one is the last at most.
            return step[1] < self.layers_then
        if step[0] == "seal":
            self.layers_then += 1
            return self.layers_then <= MOST_LAYERS
        return True


def step_in(row):
    # Only a text has a blank and a sign of equality, and it stands last, so the first such place is where it begins.
    parts = row.partition(" =")
    words = parts[0].split(" ")
    if parts[1] != "":
        words.append("=" + parts[2])
    if words[0] not in FORMS or len(words) != 1 + len(FORMS[words[0]]):
        return None
    handed = [value_in(word, kind) for word, kind in zip(words[1:], FORMS[words[0]])]
    return None if None in handed else tuple(words[:1] + handed)


# None where the word doesn't write what is wanted there.
def value_in(word, kind):
    if kind == "path":
        return path_in(word)
    if kind == "text":
        return word[1:] if word.startswith("=") and is_text(word[1:]) else None
    return number_in(word, LONGEST_TEXT if kind == "place" else MOST_NUMBER)
