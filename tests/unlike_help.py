"""What tests of what is otherwise use: rows in short, and the same answer by models that know paths alone."""

from shelf_help import p


def told(*rows):
    """Rows as "gone /a"."""
    return [(row.partition(" ")[0], p(row.partition(" ")[2])) for row in rows]


def unlike_models(one, other):
    """What unlike should tell of the shelves that two models stand for."""
    found = []
    for path in sorted(set(one.things) | set(other.things)):
        kinds = one.kind_of(path), other.kind_of(path)
        if kinds[0] != kinds[1]:
            found += [("gone", path)] * (kinds[0] is not None) + [("made", path)] * (kinds[1] is not None)
        elif kinds[0] == "file":
            files = one.things[path], other.things[path]
            if one.texts[files[0]] != other.texts[files[1]]:
                found.append(("text", path))
            elif min(one.names_of(files[0])) != min(other.names_of(files[1])):
                found.append(("first", path))
    return found
