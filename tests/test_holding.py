"""What layers hold, and how much: which layer a text or a folder's rows stand in."""

import inspect
import unittest

from overfold import holding
from overfold.errors import NoFit, NoThing
from overfold.holding import held, held_by, shared, told_size
from overfold.tops import Top
from layer_dice import row_text, some_layers
from layer_help import BASE, EMPTY, Stack, lay
from shelf_help import p
from shelf_model import Dice
from top_model import size_of

# /a comes to /b, then to /c; its file f is written over in the third layer, its file g never.
ROAD = [
    lay("folder /a alone", "file /a/f 0", "file /a/g 1", "data =one", "data =four"),
    lay("gone /a", "folder /b over /a", "file /z 0", "data of /a/g"),
    lay("data of /b/f =third"),
    lay("gone /b", "folder /c over /b", "folder /c/d alone"),
    EMPTY,
    lay("folder /c over /c", "folder /c/d over /c/d", "file /c/d/n 0", "data =new"),
]


class Interface(unittest.TestCase):
    def test_arguments(self):
        for name, arguments in (("held_by", ["layers", "path"]), ("held", ["layers"]),
                                ("shared", ["layers", "others"]), ("told_size", ["layer"])):
            self.assertEqual(list(inspect.signature(getattr(holding, name)).parameters), arguments)


class HeldBy(unittest.TestCase):
    def holds(self, layers, path, told):
        self.assertEqual(held_by(layers, p(path)), told)

    def test_files_of_one_layer(self):
        for path in ("/a/b/f", "/a/g", "/c/g", "/f", "/x"):
            self.holds([BASE], path, 0)
            self.holds([BASE, EMPTY, lay("gone /e")], path, 0)
            self.holds([EMPTY, BASE], path, 1)

    def test_a_text_written_over(self):
        layers = [BASE, lay("data of /f =new"), EMPTY, lay("data of /f =newer"), EMPTY]
        for count, told in ((1, 0), (2, 1), (3, 1), (4, 3), (5, 3)):
            self.holds(layers[:count], "/f", told)
            self.holds(layers[:count], "/x", told)
        self.holds(layers, "/a/g", 0)

    def test_a_pair_of_no_text_holds_none(self):
        layers = [BASE, lay("file /n 0", "data of /f"), lay("data of /f")]
        for path in ("/n", "/f", "/x"):
            self.holds(layers, path, 0)

    def test_a_text_said_again_stands_where_it_was_said_last(self):
        self.holds([BASE, lay("data of /f =top")], "/f", 1)

    def test_a_pair_in_no_row(self):
        self.holds([BASE, lay("data of /a/g =")], "/c/g", 1)

    def test_origins_through_several_layers(self):
        for count, path, told in ((1, "/a/f", 0), (2, "/b/f", 0), (3, "/b/f", 2), (4, "/c/f", 2), (6, "/c/f", 2),
                                  (2, "/b/g", 0), (2, "/z", 0), (6, "/c/g", 0), (6, "/z", 0), (6, "/c/d/n", 5)):
            self.holds(ROAD[:count], path, told)

    def test_a_file_made_anew_under_an_old_name(self):
        layers = [BASE, lay("file /f 0", "data =own"), lay("gone /f"), lay("file /f 0", "data of /x")]
        self.holds(layers[:2], "/f", 1)
        self.holds(layers[:2], "/x", 0)
        self.holds(layers, "/f", 0)

    def test_several_pairs_without_an_origin(self):
        layers = [lay("file /a 1", "file /b 0", "file /c 1", "data =b", "data =a"), lay("data of /b =c")]
        self.holds(layers, "/a", 0)
        self.holds(layers, "/b", 1)
        self.holds(layers, "/c", 0)

    def test_folders(self):
        self.holds([BASE], "/a", [0])
        self.holds([BASE, lay("folder /a over /a", "gone /a/g")], "/a", [0, 1])
        self.holds([BASE, lay("folder /a over /a", "gone /a/g")], "/a/b", [0])
        self.holds([BASE, EMPTY, lay("folder /a alone")], "/a", [2])
        self.holds([BASE, EMPTY, lay("folder /a alone"), EMPTY], "/a", [2])

    def test_folders_beneath_through_several_layers(self):
        for count, path, told in ((1, "/a", [0]), (2, "/b", [0, 1]), (3, "/b", [0, 1]), (4, "/c", [0, 1, 3]),
                                  (5, "/c", [0, 1, 3]), (6, "/c", [0, 1, 3, 5]), (4, "/c/d", [3]), (6, "/c/d", [3, 5])):
            self.holds(ROAD[:count], path, told)

    def test_a_row_of_the_same_path_that_is_another_folders(self):
        layers = [BASE, lay("folder /a over /c", "folder /c over /a"), lay("folder /a over /c", "folder /c over /a"),
                  lay("folder /c over /c", "gone /c/g")]
        self.holds(layers[:3], "/a", [0, 1, 2])
        self.holds(layers, "/c", [0, 1, 2, 3])
        self.holds(layers, "/a", [0, 1, 2])
        self.holds(layers, "/a/b", [0])
        layers = [lay("folder /a alone"), lay("folder /a alone", "folder /b over /a"),
                  lay("folder /a over /b", "gone /b")]
        self.holds(layers, "/a", [0, 1, 2])
        self.holds(layers[:2], "/a", [1])

    def test_the_root(self):
        self.holds([], "/", [])
        self.holds([EMPTY], "/", [0])
        self.holds(ROAD, "/", [0, 1, 2, 3, 4, 5])

    def test_a_tops_layer_put_behind_six(self):
        top = Top(ROAD, 100)
        top.write(p("/z"), "seventh")
        layers = ROAD + [top.told_layer()]
        self.holds(layers, "/c/g", 6)
        self.holds(layers, "/", [0, 1, 2, 3, 4, 5, 6])

    def test_no_thing(self):
        for layers, path in (([], "/a"), ([BASE], "/q"), ([BASE], "/f/q"), ([BASE, lay("gone /a")], "/a/g"),
                             (ROAD, "/a"), ([BASE], "/a/a/a/a/a/a/a/a/a")):
            with self.assertRaises(NoThing) as caught:
                held_by(layers, p(path))
            self.assertIs(type(caught.exception), NoThing)

    def test_no_fit_comes_ahead_of_no_thing(self):
        with self.assertRaises(NoFit) as caught:
            held_by([BASE, lay("data of /x")], p("/q"))
        self.assertEqual(caught.exception.number, 1)

    def test_each_list_is_the_askers_own(self):
        for path in ((), p("/c")):
            told = held_by(ROAD, path)
            kept = list(told)
            told.append(9)
            self.assertEqual(held_by(ROAD, path), kept)


class Held(unittest.TestCase):
    def test_no_layers_and_no_rows(self):
        self.assertEqual(held([]), [])
        self.assertEqual(held([EMPTY]), [(0, 0, 0)])

    def test_one_layer(self):
        self.assertEqual(held([BASE]), [(10, 0, 9)])

    def test_texts_hidden_by_marks_and_by_texts(self):
        self.assertEqual(held([BASE, lay("gone /f")]), [(10, 0, 9), (0, 0, 1)])
        self.assertEqual(held([BASE, lay("gone /f", "gone /x")]), [(7, 3, 9), (0, 0, 2)])
        self.assertEqual(held([BASE, lay("data of /f =longer")]), [(7, 3, 9), (6, 0, 0)])
        layers = [BASE, lay("data of /f =longer"), lay("data of /f =")]
        self.assertEqual(held(layers), [(7, 3, 9), (0, 6, 0), (0, 0, 0)])

    def test_texts_hidden_within_their_own_layer(self):
        self.assertEqual(held([BASE, lay("gone /f", "gone /x", "data of /f =longer")]), [(7, 3, 9), (0, 6, 2)])

    def test_pairs_without_a_text(self):
        self.assertEqual(held([BASE, lay("file /n 0", "data of /f")]), [(10, 0, 9), (0, 0, 1)])
        layers = [BASE, lay("file /n 0", "data of /f"), lay("gone /f", "gone /x")]
        self.assertEqual(held(layers), [(10, 0, 9), (0, 0, 1), (0, 0, 2)])

    def test_a_file_of_several_names_counts_once(self):
        self.assertEqual(held([lay("file /a 0", "file /b 0", "file /c 0", "data =four")]), [(4, 0, 3)])

    def test_texts_alike_are_counted_by_their_pairs(self):
        layers = [lay("file /a 0", "file /b 1", "data =same", "data =same"), lay("gone /a")]
        self.assertEqual(held(layers), [(4, 4, 2), (0, 0, 1)])

    def test_through_several_layers(self):
        self.assertEqual(held(ROAD), [(4, 3, 3), (0, 0, 3), (5, 0, 0), (0, 0, 3), (0, 0, 0), (3, 0, 3)])
        self.assertEqual(held(ROAD[:2]), [(7, 0, 3), (0, 0, 3)])

    def test_no_fit(self):
        with self.assertRaises(NoFit) as caught:
            held([BASE, EMPTY, lay("folder /n over /q"), BASE])
        self.assertEqual(caught.exception.number, 2)

    def test_each_list_is_the_askers_own(self):
        held(ROAD).clear()
        self.assertEqual(len(held(ROAD)), 6)


class Shared(unittest.TestCase):
    def test_alike_at_their_beginning(self):
        self.assertEqual(shared(ROAD, ROAD[:3] + [BASE]), 3)
        self.assertEqual(shared(ROAD[:1] + [EMPTY] + ROAD[2:], ROAD), 1)

    def test_whole_and_one_longer(self):
        self.assertEqual(shared(ROAD, list(ROAD)), 6)
        self.assertEqual(shared(ROAD, ROAD[:4]), 4)
        self.assertEqual(shared(ROAD[:4], ROAD), 4)
        self.assertEqual(shared(ROAD + [EMPTY], ROAD + [EMPTY]), 7)

    def test_not_at_all(self):
        self.assertEqual(shared([], []), 0)
        self.assertEqual(shared([], ROAD), 0)
        self.assertEqual(shared([BASE], ROAD), 0)
        self.assertEqual(shared([BASE] + ROAD[1:], ROAD), 0)

    def test_layers_that_show_the_same_but_are_unlike(self):
        self.assertEqual(shared([BASE, lay("gone /q")], [BASE, EMPTY]), 1)

    def test_whether_they_fit_is_not_asked(self):
        bad = lay("folder /n over /q")
        self.assertEqual(shared([bad, bad], [bad, bad, EMPTY]), 2)

    def test_layers_made_apart(self):
        self.assertEqual(shared([lay("gone /a")], [lay("gone /a")]), 1)

    def test_nothing_that_is_handed_in_is_changed(self):
        layers, others = list(ROAD), ROAD[:2]
        shared(layers, others)
        self.assertEqual((layers, others), (ROAD, ROAD[:2]))


class ToldSize(unittest.TestCase):
    def test_rows_files_and_lengths(self):
        for rows, size in (((), 0), (("gone /a",), 1), (("folder /a alone",), 1), (("data of /f",), 1),
                           (("data of /f =",), 1), (("data of /f =four",), 5), (("file /a 0", "data =four"), 6),
                           (("file /a 0", "file /b 0", "data =four", "data of /f"), 8)):
            self.assertEqual(told_size(lay(*rows)), size, rows)
        self.assertEqual(told_size(BASE), 9 + 3 + 10)

    def test_as_a_top_counts(self):
        top = Top([BASE], 1000)
        top.move(p("/a"), p("/n"))
        top.write(p("/f"), "other")
        top.make_file(p("/e/n"), "text")
        self.assertEqual(told_size(top.told_layer()), top.used_room())

    def test_whether_it_fits_is_not_asked(self):
        self.assertEqual(told_size(lay("folder /n over /q", "data of /q =t")), 3)


class ByChance(unittest.TestCase):
    def test_held_against_the_model(self):
        for seed in range(80):
            dice = Dice(seed)
            layers = some_layers(dice, 1 + dice.below(6))
            stack = Stack(layers)
            for path in [()] + stack.paths(len(layers)):
                self.assertEqual(held_by(layers, path), stack.held_by(path), (path, row_text(layers)))
            self.check_held(layers, stack)
            for layer in layers:
                self.assertEqual(told_size(layer), size_of(layer))

    def check_held(self, layers, stack):
        told = held(layers)
        self.assertEqual([row[2] for row in told], [len(layer[0]) for layer in layers])
        # Each shown file's text stands in just one pair, so the seen sizes are those of the shown texts.
        wanted = [0] * len(layers)
        for row in stack.walked():
            if row[1] == "file" and row[0] == row[3]:
                wanted[stack.held_by(row[0])] += len(row[2])
        self.assertEqual([row[0] for row in told], wanted, row_text(layers))
        whole = [sum(len(text or "") for origin, text in layer[1]) for layer in layers]
        self.assertEqual([row[0] + row[1] for row in told], whole)


if __name__ == "__main__":
    unittest.main()
