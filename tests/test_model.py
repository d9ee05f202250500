"""Long rows of deeds on a shelf, held against a model that knows paths alone."""

import itertools
import unittest

from overfold.doing import copied, done
from shelf_help import chain, p, shelf_of
from shelf_model import WORDS, Dice, a_deed, both_of


class ModelTest(unittest.TestCase):
    def same(self, shelf, model, deed):
        self.assertEqual(shelf.walked(), model.walked(), deed)
        self.assertEqual(shelf.handles(), sorted(model.held), deed)
        for handle in model.held:
            self.assertEqual(shelf.read_by(handle), model.read_by(handle), deed)
            self.assertEqual(shelf.count_by(handle), model.count_by(handle), deed)
        for path, thing in model.things.items():
            self.assertEqual(shelf.kind_of(path), model.kind_of(path), deed)
            if thing == "folder":
                self.assertEqual(shelf.names_in(path), model.names_in(path), deed)
            else:
                self.assertEqual(shelf.text_of(path), model.texts[thing], deed)
                self.assertEqual(shelf.count_of(path), model.count_of(path), deed)


SMALL = [
    ["/a", "/a/a", "/a/b =one", "/b", "/f =two", "/g -> /f"],
    ["/a", "/a/a", "/a/a/a =one", "/a/f -> /a/a/a", "/b", "/b/a", "/f -> /a/f"],
    ["/a", "/b =one", "/g", "/f -> /b", "/a/b", "/a/b/a"],
]
SMALL_PATHS = ["/", "/a", "/b", "/f", "/g", "/a/a", "/a/b", "/a/f", "/b/a", "/f/a", "/a/a/a", "/a/b/a", "/f/a/a"]
DEEP = [chain("a", 8) + ["/b", "/b/b", "/b/b/b =t", "/c", "/f =u", "/a/a/a/a/a/a/a/f =v", "/a/a/a/a/a/a/b"]]
DEEP_PATHS = chain("a", 9) + chain("b", 4) + [
    "/", "/c", "/f", "/n", "/a/a/a/a/a/a/a/f", "/a/a/a/a/a/a/a/f/n", "/a/a/a/a/a/a/a/n", "/a/a/a/a/a/a/b",
    "/a/a/a/a/a/a/b/n", "/a/a/a/a/a/n", "/a/a/a/a/a/n/n", "/a/b"]


class EveryPairOfPaths(ModelTest):
    def check(self, shelves, paths):
        told = {}
        for rows in shelves:
            for word, path, other in itertools.product(["move", "swap", "link"], paths, paths):
                shelf, model = both_of(*rows)
                deed = (word, p(path), p(other))
                answer = done(shelf, deed)
                self.assertEqual(answer, model.done(deed), deed)
                self.same(shelf, model, deed)
                told[(word, answer)] = True
        return [(word, answer[1] or "done") for word, answer in told]

    def test_small_shelves(self):
        told = self.check(SMALL, SMALL_PATHS)
        self.assertEqual(sorted(told), [
            ("link", "NoThing"), ("link", "Taken"), ("link", "WrongKind"), ("link", "done"), ("move", "NoThing"),
            ("move", "NotEmpty"), ("move", "Within"), ("move", "WrongKind"), ("move", "done"), ("swap", "NoThing"),
            ("swap", "Within"), ("swap", "done")])

    def test_a_deep_shelf(self):
        told = self.check(DEEP, DEEP_PATHS)
        self.assertIn(("move", "TooDeep"), told)
        self.assertIn(("swap", "TooDeep"), told)
        self.assertIn(("move", "done"), told)
        self.assertIn(("swap", "done"), told)


class LongRows(ModelTest):
    def check(self, seed, rows, told):
        dice = Dice(seed)
        shelf, model = both_of(*rows)
        for turn in range(120):
            deed = a_deed(dice, model)
            answer = done(shelf, deed)
            self.assertEqual(answer, model.done(deed), deed)
            self.same(shelf, model, deed)
            told[(deed[0], answer[0] if answer[0] == "done" else answer[1])] = True
        self.assertEqual(copied(shelf).walked(), model.walked())

    def test_rows_of_deeds(self):
        told = {}
        for seed in range(40):
            self.check(seed, (SMALL + DEEP + [[]])[seed % 5], told)
        for word in WORDS:
            self.assertIn((word, "done"), told)
        # What the document names of refusals was met in these rows, all but a few pairs.
        self.assertGreater(len(told), 50)


class Samples(unittest.TestCase):
    def test_the_rows_make_what_they_say(self):
        for rows in SMALL + DEEP:
            shelf, model = both_of(*rows)
            self.assertEqual(shelf.walked(), shelf_of(*rows).walked())
            self.assertEqual(len(shelf.walked()), len(rows))


if __name__ == "__main__":
    unittest.main()
