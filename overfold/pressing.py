"""Layers pressed together: two of them, or all, become the one layer that shows the same."""

from overfold.leasts import told_over
from overfold.tree import file_below, first_paths, folder_below, is_folder, things_beneath
from overfold.views import roots_of


def pressed(layers, at):
    roots = roots_of(layers)
    go_through(roots[at + 1], roots[at + 2])
    return layers[:at] + [told_over(roots[at], roots[at + 2])] + layers[at + 2:]


def pressed_all(layers):
    roots = roots_of(layers)
    # From the lowest one up, so that each is told over the empty shelf when the next one goes through it.
    for number in range(2, len(roots)):
        go_through(roots[number - 1], roots[number])
    return [] if layers == [] else [told_over(roots[0], roots[-1])]


# What the root's things have beneath them in the middle becomes what these have beneath them in turn.
def go_through(middle, root):
    for folder in [root] + [thing for path, thing in things_beneath(root) if is_folder(thing)]:
        lower_folder = folder_below(middle, folder)
        folder.beneath = None if lower_folder is None else lower_folder.beneath
    # Each file once, however many names it has.
    for file in first_paths(root):
        lower_file = file_below(middle, file)
        file.origin = None if lower_file is None else lower_file.origin
