"""Layers taken to other layers: as they are, what would be lost, and the part that can be kept."""

from overfold.leasts import least
from overfold.views import misfits_of_rows, root_of


# The layers that a layer comes from are handed in with it, but only the others say what can be taken.
def taken(layers, layer, others):
    return least(others, layer)


def lost(layers, layer, others):
    return misfits_of_rows(root_of(others), layer)


def kept_part(layers, layer, others):
    return least(others, part_left(layer, lost(layers, layer, others)))


def part_left(layer, missing):
    kept = pairs_left(layer, missing)
    numbers = dict([(number, at) for at, number in enumerate(kept)])
    entries = []
    for row in layer[0]:
        if row[1] == "folder" and ("entry", row[0]) in missing:
            entries.append((row[0], "folder", None))
        elif row[1] != "file":
            entries.append(row)
        elif row[2] in numbers:
            entries.append((row[0], "file", numbers[row[2]]))
    return (tuple(entries), tuple(kept.values()))


# The pairs by their old numbers.
def pairs_left(layer, missing):
    in_rows = dict([(row[2], True) for row in layer[0] if row[1] == "file"])
    kept = {}
    for number, pair in enumerate(layer[1]):
        if ("file", number) not in missing:
            kept[number] = pair
        elif pair[1] is not None and number in in_rows:
            kept[number] = (None, pair[1])
    return kept
