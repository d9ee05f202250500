"""Views: what layers show, one laid over the other, and whether a layer fits on those beneath it."""

from overfold.errors import NoFit
from overfold.laying import laid
from overfold.paths import MOST_NAMES
from overfold.shelf import shelf_with
from overfold.tree import Folder, first_paths, is_folder, kind_at, things_beneath

MOST_PATHS = 200


def misfit(layers, layer):
    return misfit_over(root_of(layers), layer)


def shown(layers):
    return shelf_with(root_of(layers))


def traced(layers):
    return [trace_of(path, thing) for path, thing in things_beneath(root_of(layers))]


def trace_of(path, thing):
    if is_folder(thing):
        return (path, "folder", thing.beneath)
    return (path, "file", thing.origin, thing.text)


def root_of(layers):
    return roots_of(layers)[-1]


# The root of the empty shelf comes first, so that the shelf beneath a layer stands at the layer's own number.
def roots_of(layers):
    roots = [Folder()]
    for number, layer in enumerate(layers):
        roots.append(fitted(roots[number], layer, number))
    return roots


def fitted(ground, layer, number):
    if misfit_over(ground, layer) is not None:
        raise NoFit(f"layer {number} doesn't fit on what is beneath it", number)
    return laid(ground, layer)


def misfit_over(ground, layer):
    found = misfits_of_rows(ground, layer)
    # A layer that tells of what isn't there can't be laid at all, so these rows are asked first.
    return misfit_of_things(laid(ground, layer)) if found == [] else found[0]


# All folder rows and pairs that tell of what isn't there, in their order.
def misfits_of_rows(ground, layer):
    found = []
    for row in layer[0]:
        if row[1] == "folder" and row[2] is not None and kind_at(ground, row[2]) != "folder":
            found.append(("entry", row[0]))
    origins = list(first_paths(ground).values())
    for number, pair in enumerate(layer[1]):
        if pair[0] is not None and pair[0] not in origins:
            found.append(("file", number))
    return found


def misfit_of_things(root):
    things = things_beneath(root)
    if len(things) > MOST_PATHS:
        return ("many",)
    if max([len(path) for path, thing in things], default=0) > MOST_NAMES:
        return ("deep",)
    return twice_beneath(root, things)


def twice_beneath(root, things):
    met = {root.beneath: True}
    for path, thing in things:
        if is_folder(thing) and thing.beneath is not None:
            if thing.beneath in met:
                return ("twice", path)
            met[thing.beneath] = True
    return None
