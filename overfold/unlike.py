"""What is otherwise in one shelf than in another one, path by path."""


def unlike(one, other):
    return unlike_rows(one.walked(), other.walked())


# Of rows as walked tells them, so that what a shelf had once can be held against what it has now.
def unlike_rows(old_rows, new_rows):
    olds = rows_by_path(old_rows)
    news = rows_by_path(new_rows)
    found = []
    for path in sorted(set(olds) | set(news)):
        found.extend(unlike_at(path, olds.get(path), news.get(path)))
    return found


def rows_by_path(rows):
    return dict([(row[0], row) for row in rows])


def unlike_at(path, old, new):
    if old == new:
        return []
    if old is None:
        return [("made", path)]
    if new is None:
        return [("gone", path)]
    if old[1] != new[1]:
        return [("gone", path), ("made", path)]
    # Two folders of one path are alike, so these are files.
    return [("text", path)] if old[2] != new[2] else [("first", path)]
