"""The least layer that shows a tree's things over a ground, with their folders beneath and their origins."""

from overfold.tree import file_below, first_paths, folder_below, is_folder
from overfold.views import fitted, root_of


def least(layers, layer):
    ground = root_of(layers)
    return told_over(ground, fitted(ground, layer, len(layers)))


def told_over(ground, root):
    found = things_told(ground, (), root)
    numbers = numbers_told(ground, root, dict([(thing, True) for path, thing in found]))
    entries = [entry_of(path, thing, numbers) for path, thing in found]
    return (tuple(entries), tuple([pair_of(ground, file) for file in numbers]))


# Pairs of a path and the thing there, or None where a mark must hide what is beneath.
def things_told(ground, path, folder):
    below = folder_below(ground, folder)
    beneath = {} if below is None else below.by_name
    found = []
    for name in sorted(set(folder.by_name) | set(beneath)):
        found.extend(thing_told(ground, path + (name,), folder.by_name.get(name), beneath.get(name)))
    return found


def thing_told(ground, path, thing, other):
    if thing is None:
        return [(path, None)]
    if not is_folder(thing):
        return [] if is_there_anyhow(file_below(ground, thing), other) else [(path, thing)]
    within = things_told(ground, path, thing)
    # Rows within want a row of their folder.
    if within == [] and is_there_anyhow(folder_below(ground, thing), other):
        return []
    return [(path, thing)] + within


def is_there_anyhow(below, other):
    return below is not None and below == other


# First paths rise in the dict that is walked, so the numbers come in their order.
def numbers_told(ground, root, in_rows):
    numbers = {}
    for file in first_paths(root):
        if file in in_rows or not is_as_beneath(ground, file):
            numbers[file] = len(numbers)
    return numbers


def is_as_beneath(ground, file):
    below = file_below(ground, file)
    return below is not None and below.text == file.text


def entry_of(path, thing, numbers):
    if thing is None:
        return (path, "gone")
    if is_folder(thing):
        return (path, "folder", thing.beneath)
    return (path, "file", numbers[thing])


def pair_of(ground, file):
    return (file.origin, None if is_as_beneath(ground, file) else file.text)
