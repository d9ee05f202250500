"""The least layer: what goes, what must stay, and that what is shown stays as it is."""

import inspect
import unittest

from overfold.errors import NoFit
from overfold.layers import layer_text
from overfold.leasts import least
from overfold.views import traced
from layer_dice import LayerMaker, row_text, some_layers
from layer_help import BASE, EMPTY, Stack, lay
from shelf_help import chain
from shelf_model import Dice


class LeastTest(unittest.TestCase):
    def least_is(self, layers, layer, *rows):
        told = least(layers, layer)
        self.assertEqual(layer_text(told).split("\n"), list(rows) or [""])
        self.assertEqual(told, Stack(layers + [layer]).least())
        self.assertEqual(traced(layers + [told]), traced(layers + [layer]))
        self.assertEqual(least(layers, told), told)

    def stays(self, layers, *rows):
        self.least_is(layers, lay(*rows), *rows)


class Interface(unittest.TestCase):
    def test_arguments(self):
        self.assertEqual(list(inspect.signature(least).parameters), ["layers", "layer"])


class Rows(LeastTest):
    def test_no_rows(self):
        self.least_is([], EMPTY)
        self.least_is([BASE], EMPTY)

    def test_over_the_empty_shelf_all_that_is_there_is_told(self):
        self.least_is([], BASE, *layer_text(BASE).split("\n"))

    def test_rows_that_say_what_is_there_anyhow_go(self):
        self.least_is([BASE], lay(
            "folder /a over /a", "folder /a/b over /a/b", "file /a/b/f 0", "file /a/g 1", "folder /e over /e",
            "file /f 2", "data of /a/b/f", "data of /a/g", "data of /f"))

    def test_a_row_of_a_files_other_name_goes_too(self):
        self.least_is([BASE], lay("folder /c over /c", "file /c/g 0", "file /x 1", "data of /a/g", "data of /f"))

    def test_marks_of_what_is_not_there_go(self):
        self.least_is([BASE], lay("folder /a over /a", "gone /a/q", "folder /n alone", "gone /n/o", "gone /q"),
                      "folder /n alone")

    def test_marks_for_what_is_hidden_stay(self):
        self.stays([BASE], "gone /a", "gone /f")
        self.stays([BASE], "folder /a over /a", "gone /a/b")

    def test_folders_in_which_some_row_must_be_stay(self):
        self.stays([BASE], "folder /a over /a", "folder /a/b over /a/b", "file /a/b/n 0", "data =t")
        self.stays([BASE], "folder /a over /a", "folder /a/b over /a/b", "gone /a/b/f")
        self.stays([BASE], "folder /e over /e", "folder /e/n alone")

    def test_a_folder_over_its_own_without_rows_goes_and_its_neighbour_stays(self):
        self.least_is([BASE], lay("folder /a over /a", "folder /a/b over /a/b", "gone /a/g", "folder /c over /c"),
                      "folder /a over /a", "gone /a/g")

    def test_a_folder_alone_in_the_place_of_one_beneath_stays(self):
        self.stays([BASE], "folder /a alone")
        self.stays([BASE], "folder /e alone")

    def test_a_folder_alone_that_says_all_names_again_stays(self):
        self.stays([BASE], "folder /c alone", "file /c/g 0", "data of /a/g")

    def test_a_folder_over_another_one_stays_with_what_is_otherwise_in_it(self):
        self.stays([BASE], "folder /a over /c", "folder /c over /a")
        self.least_is([BASE], lay("gone /a", "folder /n over /a", "folder /n/b over /a/b", "file /n/b/f 0", "gone /n/g",
                                  "file /n/h 1", "data of /a/b/f", "data of /a/g"),
                      "gone /a", "folder /n over /a", "gone /n/g", "file /n/h 0", "data of /a/g")

    def test_a_name_that_the_folder_beneath_has_not(self):
        self.stays([BASE], "folder /a over /c", "folder /a/b over /a/b", "folder /c over /a", "gone /c/b")

    def test_what_is_hidden_above_needs_no_mark(self):
        self.least_is([BASE], lay("folder /a alone", "gone /a/b", "gone /a/g"), "folder /a alone")

    def test_a_file_with_another_origin_in_the_same_place(self):
        self.stays([BASE], "file /f 0", "data of /a/b/f")
        self.stays([BASE], "file /f 0", "data =top")

    def test_a_folder_and_a_file_in_each_others_place(self):
        self.stays([BASE], "file /e 0", "folder /f over /e", "gone /x", "data of /f")

    def test_marks_of_nine_names(self):
        layers = [lay("folder /a alone", "file /a/f 0", "data =t")]
        deep = chain("b", 8)
        self.stays(layers, "gone /a", *[f"folder {path} alone" for path in deep[:7]], f"folder {deep[7]} over /a",
                   f"gone {deep[7]}/f")


class Pairs(LeastTest):
    def test_a_pair_of_another_text(self):
        self.stays([BASE], "data of /f =new")
        self.stays([BASE], "data of /f =")

    def test_a_pair_of_the_text_beneath_goes(self):
        self.least_is([BASE], lay("data of /f =top", "data of /a/g"))

    def test_a_pair_of_what_is_not_there_goes(self):
        self.least_is([BASE], lay("gone /f", "gone /x", "data of /f =new"), "gone /f", "gone /x")

    def test_a_pair_stays_while_one_name_is_there(self):
        self.stays([BASE], "gone /f", "data of /f =new")

    def test_a_row_wants_a_pair_and_its_text_is_none_where_it_is_the_origins(self):
        self.least_is([BASE], lay("file /n 0", "data of /f =top"), "file /n 0", "data of /f")
        self.stays([BASE], "file /n 0", "data of /f =new")

    def test_a_file_of_its_own_tells_its_text_always(self):
        self.stays([BASE], "file /n 0", "data =")
        self.stays([BASE], "file /n 0", "data =top")

    def test_one_pair_for_several_rows(self):
        self.stays([BASE], "file /a 0", "file /n 0", "data of /f")

    def test_numbers_in_the_order_of_first_paths(self):
        self.least_is([], lay("file /a 2", "file /b 0", "file /c 1", "file /d 0", "data =b", "data =c", "data =a"),
                      "file /a 0", "file /b 1", "file /c 2", "file /d 1", "data =a", "data =b", "data =c")

    def test_first_paths_are_those_in_what_comes(self):
        # The file of origin /f has its first path in /a, by a row; that of /a/g in /c, as /a hides the rest.
        self.least_is([BASE], lay("folder /a alone", "file /a/n 1", "file /d 2", "file /z 0", "data of /a/g =x",
                                  "data of /f", "data =y"),
                      "folder /a alone", "file /a/n 0", "file /d 2", "file /z 1", "data of /f", "data of /a/g =x",
                      "data =y")

    def test_pairs_without_rows_are_numbered_among_the_others(self):
        self.least_is([BASE], lay("file /b 0", "data =t", "data of /f =u", "data of /a/b/f =v"),
                      "file /b 1", "data of /a/b/f =v", "data =t", "data of /f =u")

    def test_texts_are_held_against_the_shelf_beneath_not_the_lowest(self):
        layers = [BASE, lay("data of /f =second")]
        self.stays(layers, "data of /f =top")
        self.least_is(layers, lay("data of /f =second"))


class Refused(LeastTest):
    def no_fit(self, layers, layer, number):
        with self.assertRaises(NoFit) as caught:
            least(layers, layer)
        self.assertIs(type(caught.exception), NoFit)
        self.assertEqual(caught.exception.number, number)

    def test_the_layer_itself(self):
        for layer in (lay("folder /n over /q"), lay("data of /x"), lay("folder /n over /e"), lay("folder /n over /")):
            self.no_fit([BASE], layer, 1)
            self.no_fit([EMPTY, BASE, EMPTY], layer, 3)
        self.no_fit([], lay("data of /f"), 0)

    def test_layers_ahead(self):
        bad = lay("folder /n over /q")
        self.no_fit([BASE, bad], EMPTY, 1)
        self.no_fit([bad, bad], bad, 0)
        self.no_fit([BASE, EMPTY, bad, bad], bad, 2)

    def test_many_and_deep(self):
        rows = [f"folder /a{one}{two} alone" for one in "abcdefgh" for two in "abcdefghijklmnopqrstuvwxyz"]
        self.no_fit([], lay(*rows), 0)
        deep = [f"folder {path} alone" for path in chain("a", 8)]
        self.no_fit([lay(*deep)], lay("gone /a", "folder /b alone", "folder /b/a over /a"), 1)

    def test_nothing_that_is_handed_in_is_changed(self):
        layers, layer = [BASE], lay("folder /a over /a", "data of /f =top")
        least(layers, layer)
        self.assertEqual((layers, layer), ([BASE], lay("folder /a over /a", "data of /f =top")))


def without_row(layer, at):
    return layer[0][:at] + layer[0][at + 1:], layer[1]


def is_formed(layer):
    folders = [()] + [row[0] for row in layer[0] if row[1] == "folder"]
    return all(row[0][:-1] in folders for row in layer[0])


class ByChance(LeastTest):
    def check(self, layers, layer):
        told = least(layers, layer)
        self.assertEqual(told, Stack(layers + [layer]).least(), row_text(layers + [layer]))
        self.assertEqual(Stack(layers + [told]).traced(), Stack(layers + [layer]).traced(), row_text(layers + [layer]))
        self.assertEqual(least(layers, told), told)
        # No row of it can be left out by itself.
        for at in range(len(told[0])):
            fewer = without_row(told, at)
            if is_formed(fewer):
                self.assertNotEqual(Stack(layers + [fewer]).traced(), Stack(layers + [told]).traced())
        return len(told[0]) < len(layer[0])

    def test_layers(self):
        fits = shorter = 0
        for seed in range(90):
            dice = Dice(seed)
            layers = some_layers(dice, dice.below(5))
            for turn in range(4):
                layer = LayerMaker(dice, layers, turn == 0).made()
                if Stack(layers + [layer]).misfit() is None:
                    fits += 1
                    shorter += self.check(layers, layer)
        self.assertGreater(fits, 200)
        self.assertGreater(shorter, 60)


if __name__ == "__main__":
    unittest.main()
