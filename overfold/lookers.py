"""Lookers: each looks at a path of a shelf and beneath it, and tells what became otherwise since it last looked."""

from overfold.doing import done
from overfold.paths import begins_with
from overfold.unlike import unlike_rows


# What it saw is kept as rows, not as a shelf: the shelf goes on, whoever does the deeds.
class Looker:
    def __init__(self, top, path):
        self.top = top
        self.path = path
        self.seen = rows_from(top, path)
        self.heard = []
        self.deeds = []

    def looked_at(self, deed):
        told = done(self.top, deed)
        if told[0] == "done":
            self.deeds.append(deed)
        return (told, self.looked_again())

    def looked_again(self):
        rows = rows_from(self.top, self.path)
        found = unlike_rows(self.seen, rows)
        self.seen = rows
        self.heard.extend(found)
        return found

    def all_heard(self):
        return list(self.heard)

    def deeds_done(self):
        return list(self.deeds)


def rows_from(shelf, path):
    return [row for row in shelf.walked() if begins_with(row[0], path)]
