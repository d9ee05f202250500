"""One layer laid over the shelf beneath it.

The shelf beneath is told by its root, the ground. What comes is a new tree, in which each folder tells its folder
beneath and each file its origin by their paths in the ground. Whether the layer fits is asked elsewhere: here its
folder rows and its pairs are taken to tell of what is there.
"""

from overfold.paths import parent_of
from overfold.tree import File, Folder, first_paths, folder_below, is_folder, names_within, thing_at

NO_ROWS = ((), ())


def laid(ground, layer):
    return Laying(ground, layer).folder_over((), ())


# It keeps each file that has an origin by that, as files of one origin are one file wherever they come.
class Laying:
    def __init__(self, ground, layer):
        self.ground = ground
        self.firsts = first_paths(ground)
        self.by_origin = {}
        self.by_parent = rows_by_parent(layer[0])
        self.numbered = [self.file_of(pair) for pair in layer[1]]

    def file_of(self, pair):
        if pair[0] is None:
            return File(pair[1])
        file = self.file_over(pair[0])
        if pair[1] is not None:
            file.text = pair[1]
        return file

    def file_over(self, origin):
        if origin not in self.by_origin:
            file = File(thing_at(self.ground, origin).text)
            file.origin = origin
            self.by_origin[origin] = file
        return self.by_origin[origin]

    def folder_over(self, path, beneath):
        folder = Folder()
        folder.beneath = beneath
        rows = self.by_parent.get(path, [])
        self.bring_names(folder, path, [row[0][-1] for row in rows])
        for row in rows:
            if row[1] != "gone":
                folder.by_name[row[0][-1]] = self.told_by(row)
        return folder

    # The names of the folder beneath that no row tells of come by themselves.
    def bring_names(self, folder, path, told):
        below = folder_below(self.ground, folder)
        if below is None:
            return
        for name in names_within(below):
            if name not in told:
                folder.by_name[name] = self.brought(below.by_name[name], path + (name,), folder.beneath + (name,))

    def brought(self, thing, path, beneath):
        if is_folder(thing):
            return self.folder_over(path, beneath)
        return self.file_over(self.firsts[thing])

    def told_by(self, row):
        if row[1] == "folder":
            return self.folder_over(row[0], row[2])
        return self.numbered[row[2]]


def rows_by_parent(entries):
    rows = {}
    for row in entries:
        rows.setdefault(parent_of(row[0]), []).append(row)
    return rows
