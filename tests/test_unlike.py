"""What is otherwise in one shelf than in another one: point 21."""

import inspect
import unittest

from overfold.doing import copied, done
from overfold.shelf import Shelf
from overfold.tops import Top
from overfold.unlike import unlike
from overfold.views import shown
from layer_dice import some_layers
from layer_help import BASE, lay
from shelf_help import SAMPLE_PATHS, chain, p, sample, shelf_of, state_of
from shelf_model import Dice, Model, a_deed
from unlike_help import told, unlike_models

PLENTY = 10 ** 6


def turned(rows):
    """What is told from the second to the first: what was made is gone, and goes ahead of what was gone there."""
    words = {"gone": "made", "made": "gone", "text": "text", "first": "first"}
    return sorted([(words[word], path) for word, path in rows], key=lambda row: (row[1], row[0]))


class UnlikeTest(unittest.TestCase):
    def otherwise(self, one, other, *rows):
        """These rows are told, and those that fit them the other way round; nothing is changed by asking."""
        before = state_of(one), state_of(other)
        self.assertEqual(unlike(one, other), told(*rows))
        self.assertEqual(unlike(other, one), turned(told(*rows)))
        self.assertEqual((unlike(one, one), unlike(other, other)), ([], []))
        self.assertEqual((state_of(one), state_of(other)), before)

    def by_deeds(self, deeds, *rows):
        """What the deeds change in the sample."""
        other = sample()
        for deed in deeds:
            self.assertEqual(done(other, deed)[0], "done", deed)
        self.otherwise(sample(), other, *rows)


class Interface(unittest.TestCase):
    def test_arguments(self):
        self.assertEqual(list(inspect.signature(unlike).parameters), ["one", "other"])

    def test_a_list_of_pairs(self):
        rows = unlike(Shelf(), sample())
        self.assertIs(type(rows), list)
        for row in rows:
            self.assertEqual((type(row), len(row), type(row[1])), (tuple, 2, tuple))


class GoneAndMade(UnlikeTest):
    def test_all_and_nothing(self):
        self.otherwise(Shelf(), sample(), *["made " + path for path in SAMPLE_PATHS])
        self.otherwise(Shelf(), Shelf())

    def test_a_folder_and_a_file(self):
        self.by_deeds([("make_folder", p("/n")), ("make_file", p("/a/n"), "")], "made /a/n", "made /n")
        self.by_deeds([("drop", p("/e")), ("drop", p("/a/b/f"))], "gone /a/b/f", "gone /e")

    def test_a_folder_moved_with_all_that_is_beneath(self):
        self.by_deeds([("move", p("/a/b"), p("/e"))], "gone /a/b", "gone /a/b/f", "made /e/f")
        self.by_deeds([("move", p("/a/b"), p("/d"))], "gone /a/b", "gone /a/b/f", "made /d", "made /d/f")

    def test_the_root_is_never_told(self):
        self.assertNotIn((), [row[1] for row in unlike(Shelf(), sample()) + unlike(sample(), Shelf())])

    def test_eight_names(self):
        self.otherwise(Shelf(), shelf_of(*chain("a", 8)), *["made " + path for path in chain("a", 8)])


class Kinds(UnlikeTest):
    def test_gone_comes_ahead_of_made_either_way(self):
        folder, file = shelf_of("/a"), shelf_of("/a =t")
        self.assertEqual(unlike(folder, file), told("gone /a", "made /a"))
        self.assertEqual(unlike(file, folder), told("gone /a", "made /a"))

    def test_with_things_beneath_and_beside(self):
        one, other = shelf_of("/a", "/a/b", "/a/c =t", "/d =t"), shelf_of("/a =t", "/d", "/d/e", "/e")
        self.otherwise(one, other, "gone /a", "made /a", "gone /a/b", "gone /a/c", "gone /d", "made /d", "made /d/e",
                       "made /e")

    def test_a_swap_of_a_folder_and_a_file(self):
        self.by_deeds([("swap", p("/c"), p("/a/b/f"))], "gone /a/b/f", "made /a/b/f", "made /a/b/f/g", "first /a/g",
                      "gone /c", "made /c", "gone /c/g")


class Texts(UnlikeTest):
    def test_each_name_of_the_file(self):
        self.by_deeds([("write", p("/x"), "other")], "text /f", "text /x")
        self.by_deeds([("cut", p("/a/b/f"), 0)], "text /a/b/f")

    def test_blanks_count(self):
        self.otherwise(shelf_of("/a =t", "/b ="), shelf_of("/a =t ", "/b = "), "text /a", "text /b")

    def test_ahead_of_first_paths(self):
        """Where both are unlike the text alone is told."""
        self.otherwise(shelf_of("/a =t", "/b -> /a"), shelf_of("/a =t", "/b =u"), "text /b")
        self.by_deeds([("drop", p("/f")), ("write", p("/x"), "u")], "gone /f", "text /x")

    def test_another_file_of_the_same_text_is_alike(self):
        self.by_deeds([("drop", p("/a/b/f")), ("make_file", p("/a/b/f"), "deep")])
        self.otherwise(shelf_of("/a =t", "/b =t"), shelf_of("/b =t", "/a =t"))


class FirstPaths(UnlikeTest):
    def test_two_files_in_the_place_of_one(self):
        self.otherwise(shelf_of("/a =t", "/b -> /a"), shelf_of("/a =t", "/b =t"), "first /b")

    def test_names_shared_out_otherwise(self):
        self.otherwise(shelf_of("/a =t", "/b =t", "/c -> /a", "/d -> /b"),
                       shelf_of("/a =t", "/b =t", "/c -> /b", "/d -> /a"), "first /c", "first /d")

    def test_the_first_name_is_gone_or_a_lesser_one_is_made(self):
        self.by_deeds([("drop", p("/a/g"))], "gone /a/g", "first /c/g")
        self.by_deeds([("link", p("/x"), p("/d"))], "made /d", "first /f", "first /x")

    def test_a_further_name_changes_no_first_path(self):
        self.by_deeds([("link", p("/f"), p("/g"))], "made /g")
        self.by_deeds([("drop", p("/x"))], "gone /x")

    def test_the_folder_of_the_first_name_is_moved(self):
        self.by_deeds([("move", p("/a"), p("/d"))], "gone /a", "gone /a/b", "gone /a/b/f", "gone /a/g", "first /c/g",
                      "made /d", "made /d/b", "made /d/b/f", "made /d/g")


class Rising(UnlikeTest):
    def test_by_names_not_by_letters(self):
        self.otherwise(shelf_of("/a", "/ab =t"), shelf_of("/a", "/a/b", "/ab =u", "/b"),
                       "made /a/b", "text /ab", "made /b")

    def test_gone_text_first_and_made_among_one_another(self):
        one = shelf_of("/a =t", "/b =t", "/c -> /b", "/d =t", "/f")
        other = shelf_of("/b =u", "/c =t", "/d", "/e", "/f")
        self.otherwise(one, other, "gone /a", "text /b", "first /c", "gone /d", "made /d", "made /e")


class ShelvesAndTops(UnlikeTest):
    def test_each_with_each(self):
        layers = [BASE, lay("gone /e", "data of /f =new")]
        rows = ["gone /e", "text /f", "text /x"]
        for one in (sample(), Top([BASE], 0), shown([BASE])):
            for other in (shown(layers), Top(layers, 0), copied(Top(layers, 0))):
                self.otherwise(one, other, *rows)

    def test_a_top_and_what_it_came_from(self):
        top = Top([BASE], PLENTY)
        self.otherwise(shown([BASE]), top)
        top.swap(p("/c"), p("/e"))
        self.otherwise(shown([BASE]), top, "gone /c/g", "made /e/g")
        self.otherwise(shown([BASE, top.told_layer()]), top)

    def test_handles_and_files_without_a_name_are_nothing_otherwise(self):
        one, other = sample(), sample()
        other.hold(p("/f"))
        self.otherwise(one, other)
        one.drop(p("/a/b/f"))
        other.hold(p("/a/b/f"))
        other.drop(p("/a/b/f"))
        self.otherwise(one, other)


class AskersOwn(UnlikeTest):
    def test_a_told_list_changed_changes_nothing(self):
        one, other = Shelf(), sample()
        rows = unlike(one, other)
        rows.pop()
        rows.append("more")
        self.otherwise(one, other, *["made " + path for path in SAMPLE_PATHS])
        self.assertIsNot(unlike(one, one), unlike(one, one))

    def test_nothing_done_later_changes_it(self):
        one, other = Shelf(), sample()
        rows = unlike(one, other)
        one.make_folder(p("/a"))
        other.drop(p("/x"))
        self.assertEqual(rows, told(*["made " + path for path in SAMPLE_PATHS]))


def model_of(layers):
    """The things that the layers show, by deeds on the model alone."""
    model = Model()
    for row in shown(layers).walked():
        if row[1] == "folder":
            model.make_folder(row[0])
        elif row[3] == row[0]:
            model.make_file(row[0], row[2])
        else:
            model.link(row[3], row[0])
    return model


class ByChance(UnlikeTest):
    def test_two_shelves_that_went_their_own_ways(self):
        met = {}
        for seed in range(60):
            dice = Dice(seed)
            layers = some_layers(dice, 1 + dice.below(3))
            pairs = [(shown(layers), model_of(layers)), (Top(layers, PLENTY), model_of(layers))]
            for turn in range(30):
                shelf, model = dice.one_of(pairs)
                deed = a_deed(dice, model)
                self.assertEqual(done(shelf, deed), model.done(deed))
                self.check_both(pairs, met)
        self.assertEqual(sorted(met), ["alike", "first", "gone", "made", "text", "unlike"])

    def check_both(self, pairs, met):
        for one, other in (pairs, pairs[::-1]):
            rows = unlike(one[0], other[0])
            self.assertEqual(rows, unlike_models(one[1], other[1]))
            self.assertEqual(rows == [], one[0].walked() == other[0].walked())
            met["alike" if rows == [] else "unlike"] = True
            met.update({row[0]: True for row in rows})


if __name__ == "__main__":
    unittest.main()
