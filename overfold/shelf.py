"""The plain shelf: its deeds by names and by handles, and what it is asked."""

from overfold.errors import NoHandle
from overfold.texts import cut_text, put_text
from overfold.tree import (
    File, Folder, add_name, drop_name, first_paths, found_file, found_folder, is_folder, kind_at, link_name, move_name,
    names_within, paths_of, same_file_at, swap_names, things_beneath)


class Shelf:
    def __init__(self):
        self.root = Folder()
        self.held_files = {}
        self.last_handle = 0

    def make_folder(self, path):
        add_name(self.root, path, Folder())

    def make_file(self, path, text):
        add_name(self.root, path, File(text))

    def write(self, path, text):
        file = found_file(self.root, path)
        file.text = text

    def put(self, path, place, text):
        file = found_file(self.root, path)
        file.text = put_text(file.text, place, text)

    def cut(self, path, size):
        file = found_file(self.root, path)
        file.text = cut_text(file.text, size)

    def link(self, path, other):
        link_name(self.root, path, other)

    def drop(self, path):
        drop_name(self.root, path)

    def move(self, path, other):
        move_name(self.root, path, other)

    def swap(self, path, other):
        swap_names(self.root, path, other)

    def hold(self, path):
        file = found_file(self.root, path)
        # The last number is kept apart from the open handles, as none comes twice, behind a close either.
        self.last_handle += 1
        self.held_files[self.last_handle] = file
        return self.last_handle

    def file_by(self, handle):
        if handle not in self.held_files:
            raise NoHandle(f"no handle {handle} is there")
        return self.held_files[handle]

    def read_by(self, handle):
        return self.file_by(handle).text

    def write_by(self, handle, text):
        file = self.file_by(handle)
        file.text = text

    def put_by(self, handle, place, text):
        file = self.file_by(handle)
        file.text = put_text(file.text, place, text)

    def cut_by(self, handle, size):
        file = self.file_by(handle)
        file.text = cut_text(file.text, size)

    def count_by(self, handle):
        return len(paths_of(self.root, self.file_by(handle)))

    def name_by(self, handle, other):
        add_name(self.root, other, self.file_by(handle))

    def close(self, handle):
        # Asked for first, so that a handle that isn't there is refused as everywhere.
        self.file_by(handle)
        self.held_files.pop(handle)

    def handles(self):
        return sorted(self.held_files)

    def kind_of(self, path):
        return kind_at(self.root, path)

    def text_of(self, path):
        return found_file(self.root, path).text

    def names_in(self, path):
        return names_within(found_folder(self.root, path))

    def count_of(self, path):
        return len(paths_of(self.root, found_file(self.root, path)))

    def same_file(self, path, other):
        return same_file_at(self.root, path, other)

    def walked(self):
        firsts = first_paths(self.root)
        rows = []
        for path, thing in things_beneath(self.root):
            if is_folder(thing):
                rows.append((path, "folder"))
            else:
                rows.append((path, "file", thing.text, firsts[thing]))
        return rows


def shelf_with(root):
    shelf = Shelf()
    shelf.root = root
    return shelf
