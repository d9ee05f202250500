"""What layers hold: the layers in which a text or a folder's rows stand, and how much each layer tells."""

from overfold.tree import file_below, first_paths, found_thing, is_folder, thing_at
from overfold.views import roots_of


def held_by(layers, path):
    roots = roots_of(layers)
    last = len(layers) - 1
    thing = found_thing(roots[-1], path)
    if path == ():
        return list(range(len(layers)))
    if is_folder(thing):
        return layers_of_folder(layers, roots, last, path)
    return place_of_text(layers, roots, last, thing)[0]


# The lowest layer has nothing but the empty shelf beneath it, so both ways down end there at the latest.
def layers_of_folder(layers, roots, at, path):
    if path is None:
        return []
    lower = layers_of_folder(layers, roots, at - 1, thing_at(roots[at + 1], path).beneath)
    return lower + [at] if path in [row[0] for row in layers[at][0]] else lower


# The number of the layer, and that of the pair within it.
def place_of_text(layers, roots, at, file):
    number = number_of_text(layers[at], roots[at + 1], file)
    if number is not None:
        return (at, number)
    return place_of_text(layers, roots, at - 1, file_below(roots[at], file))


def number_of_text(layer, root, file):
    if file.origin is None:
        return number_in_rows(layer, root, file)
    for number, pair in enumerate(layer[1]):
        if pair[0] == file.origin and pair[1] is not None:
            return number
    return None


# A pair without an origin doesn't say whose it is: its file is known by the rows that give it its names.
def number_in_rows(layer, root, file):
    for row in layer[0]:
        if thing_at(root, row[0]) == file:
            return row[2]
    return None


def held(layers):
    roots = roots_of(layers)
    seen = [place_of_text(layers, roots, len(layers) - 1, file) for file in first_paths(roots[-1])]
    return [sizes_held(layer, at, seen) for at, layer in enumerate(layers)]


def sizes_held(layer, at, places_seen):
    seen = sum([len(layer[1][number][1]) for home, number in places_seen if home == at])
    return (seen, texts_size(layer) - seen, len(layer[0]))


def shared(layers, others):
    alike = 0
    for layer, other in zip(layers, others):
        if layer != other:
            return alike
        alike += 1
    return alike


def told_size(layer):
    return len(layer[0]) + len(layer[1]) + texts_size(layer)


def texts_size(layer):
    return sum([len(pair[1]) for pair in layer[1] if pair[1] is not None])
