"""Deeds as tuples, done on a shelf, and shelves copied whole."""

from overfold.errors import NoHandle, NoRoom, NoThing, NotEmpty, Taken, TooDeep, TooLong, Within, WrongKind
from overfold.shelf import Shelf


def do_make_folder(shelf, deed):
    return shelf.make_folder(deed[1])


def do_make_file(shelf, deed):
    return shelf.make_file(deed[1], deed[2])


def do_write(shelf, deed):
    return shelf.write(deed[1], deed[2])


def do_put(shelf, deed):
    return shelf.put(deed[1], deed[2], deed[3])


def do_cut(shelf, deed):
    return shelf.cut(deed[1], deed[2])


def do_link(shelf, deed):
    return shelf.link(deed[1], deed[2])


def do_drop(shelf, deed):
    return shelf.drop(deed[1])


def do_move(shelf, deed):
    return shelf.move(deed[1], deed[2])


def do_swap(shelf, deed):
    return shelf.swap(deed[1], deed[2])


def do_hold(shelf, deed):
    return shelf.hold(deed[1])


def do_read_by(shelf, deed):
    return shelf.read_by(deed[1])


def do_write_by(shelf, deed):
    return shelf.write_by(deed[1], deed[2])


def do_put_by(shelf, deed):
    return shelf.put_by(deed[1], deed[2], deed[3])


def do_cut_by(shelf, deed):
    return shelf.cut_by(deed[1], deed[2])


def do_count_by(shelf, deed):
    return shelf.count_by(deed[1])


def do_name_by(shelf, deed):
    return shelf.name_by(deed[1], deed[2])


def do_close(shelf, deed):
    return shelf.close(deed[1])


WAYS = {
    "make_folder": do_make_folder,
    "make_file": do_make_file,
    "write": do_write,
    "put": do_put,
    "cut": do_cut,
    "link": do_link,
    "drop": do_drop,
    "move": do_move,
    "swap": do_swap,
    "hold": do_hold,
    "read_by": do_read_by,
    "write_by": do_write_by,
    "put_by": do_put_by,
    "cut_by": do_cut_by,
    "count_by": do_count_by,
    "name_by": do_name_by,
    "close": do_close,
}


def done(shelf, deed):
    try:
        told = WAYS[deed[0]](shelf, deed)
    except NoThing:
        return ("refused", "NoThing")
    except WrongKind:
        return ("refused", "WrongKind")
    except Within:
        return ("refused", "Within")
    except Taken:
        return ("refused", "Taken")
    except NotEmpty:
        return ("refused", "NotEmpty")
    except TooLong:
        return ("refused", "TooLong")
    except TooDeep:
        return ("refused", "TooDeep")
    except NoHandle:
        return ("refused", "NoHandle")
    except NoRoom:
        return ("refused", "NoRoom")
    return ("done", told)


def copied(shelf):
    twin = Shelf()
    for row in shelf.walked():
        add_copy(twin, row)
    return twin


def add_copy(twin, row):
    path = row[0]
    if row[1] == "folder":
        twin.make_folder(path)
    elif row[3] == path:
        twin.make_file(path, row[2])
    else:
        # The first of a file's paths is the least one, so it was copied ahead of this one.
        twin.link(row[3], path)
