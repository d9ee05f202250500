"""Layers told as rows of deeds, and rows of deeds done on a top."""

import inspect
import unittest

from overfold import deeds
from overfold.deeds import deeds_for, replayed
from overfold.doing import done
from overfold.leasts import least
from overfold.paths import is_name
from overfold.tops import Top
from overfold.views import shown, traced
from layer_dice import LayerMaker, layers_by_deeds, layers_of_both, row_text
from layer_help import BASE, EMPTY, FitTest, Stack, lay
from shelf_help import chain, p, state_of
from shelf_model import Dice, a_deed
from top_model import TopModel

PLENTY = 10 ** 6
BAD = lay("folder /n over /q")
LETTERS = "abcdefghijklmnopqrstuvwxyz"
HANDED = {"make_folder": "p", "make_file": "pt", "write": "pt", "put": "pnt", "cut": "pn", "link": "pp", "drop": "p",
          "move": "pp", "swap": "pp"}


def is_path(path):
    return isinstance(path, tuple) and len(path) <= 8 and all(is_name(name) for name in path)


class DeedsTest(FitTest):
    def is_deed(self, deed):
        """A tuple of a word of point 5 and just what is handed to it."""
        self.assertIs(type(deed), tuple)
        self.assertEqual(len(deed), 1 + len(HANDED[deed[0]]), deed)
        for kind, value in zip(HANDED[deed[0]], deed[1:]):
            fine = is_path(value) if kind == "p" else type(value) is {"t": str, "n": int}[kind]
            self.assertTrue(fine, deed)

    def comes(self, layers, layer):
        """All deeds are done, no shelf between goes beyond the bounds, and the least layer is told behind them."""
        before, words = repr((layers, layer)), row_text(layers + [layer])
        told = deeds_for(layers, layer)
        self.assertIs(type(told), list)
        self.assertEqual(repr((layers, layer)), before)
        top = Top(layers, PLENTY)
        for deed in told:
            self.is_deed(deed)
            self.assertEqual(done(top, deed), ("done", None), (deed, words))
            walked = top.walked()
            self.assertLessEqual(len(walked), 200, words)
            self.assertLessEqual(max([len(row[0]) for row in walked], default=0), 8, words)
        self.assertEqual(top.told_layer(), least(layers, layer), words)
        self.assertEqual(top.told_layer(), Stack(layers + [layer]).least(), words)
        self.assertEqual(top.walked(), shown(layers + [layer]).walked(), words)
        self.assertEqual(deeds_for(layers, layer), told, words)
        return told

    def comes_by(self, layers, *rows):
        """The layer that is told behind these deeds is told as deeds again."""
        top = Top(layers, PLENTY)
        for deed in rows:
            self.assertEqual(done(top, deed)[0], "done", deed)
        self.comes(layers, top.told_layer())


class Interface(unittest.TestCase):
    def test_arguments(self):
        for name, arguments in (("deeds_for", ["layers", "layer"]), ("replayed", ["layers", "room", "deeds"])):
            self.assertEqual(list(inspect.signature(getattr(deeds, name)).parameters), arguments)


class Files(DeedsTest):
    def test_made_and_dropped(self):
        self.comes([BASE], lay("file /e 0", "data =t"))
        self.comes([BASE], lay("file /e 0", "folder /n alone", "file /n/f 1", "gone /x", "data =", "data =u"))
        self.comes([BASE], lay("gone /f"))
        self.comes([BASE], lay("gone /f", "gone /x"))
        self.comes([BASE], lay("folder /a over /a", "folder /a/b over /a/b", "gone /a/b/f"))

    def test_in_the_place_of_a_folder_and_a_folder_in_that_of_a_file(self):
        self.comes([BASE], lay("file /a 0", "folder /f alone", "folder /f/a over /a", "data of /f"))
        self.comes_by([BASE], ("swap", p("/a"), p("/f")))
        self.comes_by([BASE], ("swap", p("/a/b"), p("/x")))

    def test_moved_over_one_another(self):
        self.comes_by([BASE], ("move", p("/f"), p("/a/g")))
        self.comes_by([BASE], ("move", p("/a/g"), p("/f")), ("move", p("/c/g"), p("/x")))
        self.comes_by([BASE], ("move", p("/a/b/f"), p("/f")), ("move", p("/x"), p("/a/b/f")))

    def test_in_a_ring(self):
        self.comes_by([BASE], ("swap", p("/f"), p("/a/g")), ("swap", p("/a/g"), p("/a/b/f")))
        self.comes([BASE], lay("folder /a over /a", "file /a/g 0", "file /f 1", "data of /f", "data of /a/g"))

    def test_a_new_file_where_an_old_one_was(self):
        self.comes([BASE], lay("file /f 0", "data =top"))
        self.comes([BASE], lay("file /f 0", "file /x 1", "data =top", "data =top"))
        self.comes_by([BASE], ("drop", p("/a/g")), ("make_file", p("/a/g"), "one"))

    def test_names_of_one_file(self):
        self.comes_by([BASE], ("link", p("/f"), p("/a/f")), ("link", p("/f"), p("/z")))
        self.comes_by([BASE], ("link", p("/f"), p("/b")), ("drop", p("/f")), ("drop", p("/x")))
        self.comes([BASE], lay("file /m 0", "file /n 0", "file /o 0", "data =t"))
        self.comes([BASE], lay("file /a 0", "file /c 0", "file /e 1", "data of /a/g", "data of /f"))
        self.comes([BASE], lay("file /a 0", "file /b 0", "file /c 0", "file /f 0", "gone /x", "data of /f =t"))

    def test_a_new_name_of_a_file_that_keeps_one_in_a_folder_that_moved(self):
        self.comes([BASE], lay("gone /a", "file /b 0", "folder /z over /a", "data of /a/b/f"))
        self.comes([BASE], lay("gone /a", "file /b 0", "gone /c", "folder /z over /a", "data of /a/g =t"))

    def test_a_new_name_of_a_file_ahead_of_and_behind_the_one_it_keeps(self):
        self.comes([BASE], lay("file /b 0", "gone /x", "data of /f"))
        self.comes([BASE], lay("gone /f", "file /z 0", "data of /f"))

    def test_texts_written(self):
        self.comes([BASE], lay("data of /f =new", "data of /a/g =", "data of /a/b/f =deeper"))
        self.comes([BASE], lay("gone /f", "file /n 0", "gone /x", "data of /f =new"))
        self.comes([BASE, lay("data of /f =new")], lay("data of /f =top"))
        self.comes([BASE], lay("gone /a", "folder /n over /a", "data of /a/g =t" + " " * 199))

    def test_files_alike_but_of_other_origins(self):
        lower = lay("file /a 0", "file /b 1", "data =same", "data =same")
        self.comes([lower], lay("file /a 0", "file /b 1", "data of /b", "data of /a"))
        self.comes([lower], lay("file /b 0", "data of /a"))


class Folders(DeedsTest):
    def test_made_and_dropped(self):
        self.comes([BASE], lay("folder /n alone", "folder /n/n alone", "folder /n/n/n alone"))
        self.comes([BASE], lay("gone /a", "gone /c", "gone /e"))
        self.comes([BASE], lay("gone /a", "gone /c", "gone /e", "gone /f", "gone /x"))

    def test_alone_where_one_was(self):
        self.comes([BASE], lay("folder /a alone", "folder /a/b alone", "folder /e alone"))
        self.comes([BASE], lay("folder /a alone", "file /a/g 0", "data of /a/g"))

    def test_moved_and_swapped(self):
        self.comes([BASE], lay("gone /a", "folder /n over /a"))
        self.comes([BASE], lay("folder /a over /c", "folder /c over /a"))
        self.comes_by([BASE], ("swap", p("/a"), p("/c")), ("swap", p("/c/b"), p("/e")), ("move", p("/a"), p("/e/n")))

    def test_in_a_ring(self):
        self.comes([BASE], lay("folder /a over /c", "folder /c over /e", "folder /e over /a"))
        self.comes([BASE], lay("folder /a over /c", "folder /c over /e", "folder /e over /a", "folder /e/b alone"))

    def test_into_one_another(self):
        self.comes([BASE], lay("folder /a over /c", "folder /a/n over /a", "gone /c"))
        self.comes([BASE], lay("folder /a over /a/b", "folder /a/b over /a", "gone /a/b/b"))
        self.comes([BASE], lay("gone /a", "gone /c", "folder /e over /e", "folder /e/n over /a",
                               "folder /e/n/c over /c"))
        self.comes([lay(*[f"folder {path} alone" for path in chain("a", 6)])],
                   lay("folder /a over /a/a/a/a/a/a", "folder /a/a over /a/a/a/a/a", "gone /a/a/a"))

    def test_the_order_of_a_chain_turned_round(self):
        paths = [p(path) for path in chain("a", 6)]
        rows = tuple((path, "folder", over) for path, over in zip(paths, reversed(paths)))
        # Each folder hides the one that it had within, where none is put in its place.
        layer = (rows + ((paths[-1] + ("a",), "gone"),), ())
        self.comes([lay(*[f"folder {path} alone" for path in chain("a", 6)])], layer)

    def test_a_folder_kept_out_of_one_that_goes(self):
        self.comes([BASE], lay("gone /a", "folder /n over /a/b"))
        self.comes([BASE], lay("folder /a over /a/b"))
        self.comes([BASE], lay("file /a 0", "folder /c over /a/b", "data of /a/g"))

    def test_rows_within_folders_that_stay_and_that_move(self):
        self.comes([BASE], lay("folder /a over /a", "folder /a/b over /a/b", "folder /a/b/n alone", "gone /a/g"))
        self.comes([BASE], lay("gone /a", "folder /n over /a", "folder /n/b over /a/b", "file /n/b/f 0", "gone /n/g",
                               "data of /f"))

    def test_over_several_layers(self):
        layers = [BASE, lay("gone /a", "folder /n over /a"), lay("folder /c over /n", "folder /n over /c")]
        self.comes(layers, lay("folder /c over /n", "folder /n over /c", "data of /c/g =t"))
        self.comes(layers + [EMPTY] * 3, lay("folder /a over /c", "gone /c", "file /n 0", "data of /f"))


class Edges(DeedsTest):
    def test_no_layers_and_no_rows(self):
        self.comes([], EMPTY)
        self.comes([], BASE)
        self.comes([BASE], EMPTY)
        self.comes([EMPTY] * 6, BASE)

    def test_a_layer_that_is_not_the_least(self):
        self.comes([BASE], lay("folder /a over /a", "gone /q", "file /x 0", "data of /f =top"))
        self.comes([BASE], lay("gone /f", "gone /x", "data of /f =new"))

    def test_each_name_of_one_letter_is_there_before_and_behind(self):
        lower = lay(*[f"folder /{name} alone" for name in LETTERS])
        turned = [f"folder /{name} over /{other}" for name, other in zip(LETTERS, reversed(LETTERS))]
        self.comes([lower], lay(*turned))
        shifted = [f"folder /{name} over /{other}" for name, other in zip(LETTERS, LETTERS[1:] + LETTERS[0])]
        self.comes([lower], lay(*shifted))
        files = [f"file /{name} {at}" for at, name in enumerate(LETTERS)]
        files_lower = lay(*files, *[f"data ={name}" for name in LETTERS])
        self.comes([files_lower], lay(*files, *[f"data of /{name}" for name in reversed(LETTERS)]))

    def test_names_that_stand_in_the_root_behind_alone(self):
        rows = [f"folder /{name} alone" for name in LETTERS if name != "n"]
        self.comes([lay("folder /n alone", "folder /n/n alone", "file /n/n/f 0", "data =t")],
                   lay(*rows[:13], "folder /n over /n/n", "folder /n/n over /n", "gone /n/n/n", *rows[13:]))

    def test_eighty_paths_of_six_names(self):
        names = [one + two for one in "abcd" for two in "abcdefghijklmnopqrstuvwxyz"][:74]
        deep = [f"folder {path} alone" for path in chain("a", 5)]
        lower = lay(*deep, *[f"file /a/a/a/a/a/{name} {at}" for at, name in enumerate(names)], "folder /z alone",
                    *[f"data ={name}" for name in names])
        self.assertEqual((len(shown([lower]).walked()), max(len(row[0]) for row in shown([lower]).walked())), (80, 6))
        turned = [f"data of /a/a/a/a/a/{name}" for name in reversed(names)]
        over = [f"folder {path} over {path}" for path in chain("a", 5)]
        self.comes([lower], lay(*over, *[f"file /a/a/a/a/a/{name} {at}" for at, name in enumerate(names)], *turned))
        away = [f"folder {path} alone" for path in chain("b", 4)] + ["folder /b/b/b/b/b over /a/a/a/a/a"]
        self.comes([lower], lay("gone /a", *away, "folder /z over /z"))
        self.comes([lower], lay("gone /a", "gone /z"))
        self.comes([], lower)

    def test_a_tall_folder_moved_to_the_least_and_the_greatest_depth(self):
        lower = lay(*[f"folder {path} alone" for path in chain("a", 6)])
        self.comes([lower], lay("folder /a over /a/a"))
        self.comes([lower], lay("gone /a", *[f"folder {path} alone" for path in chain("b", 5)],
                                "folder /b/b/b/b/b/b over /a/a/a/a/a/a"))
        self.comes([lower], lay("gone /a", "folder /b alone", "folder /b/b over /a/a"))

    def test_each_list_is_the_askers_own(self):
        layers, layer = [BASE], lay("gone /e", "gone /x")
        told = deeds_for(layers, layer)
        kept = list(told)
        told.clear()
        self.assertEqual(deeds_for(layers, layer), kept)
        self.assertEqual((layers, layer), ([BASE], lay("gone /e", "gone /x")))


class Refused(DeedsTest):
    def test_layers_and_the_layer_itself(self):
        for layers, layer, number in (
                ([BAD], EMPTY, 0), ([BASE, BAD], BAD, 1), ([BASE, EMPTY, BAD, BAD], EMPTY, 2), ([BASE], BAD, 1),
                ([], lay("data of /f"), 0), ([BASE, EMPTY], lay("data of /x"), 2),
                ([BASE], lay("folder /n over /e"), 1), ([BASE] + [EMPTY] * 5, BAD, 6)):
            self.no_fit(number, least, layers, layer)
            self.no_fit(number, deeds_for, layers, layer)


class Replayed(DeedsTest):
    ROW = [("make_folder", p("/n")), ("make_folder", p("/n")), ("move", p("/a"), p("/n/a")), ("hold", p("/x")),
           ("put_by", 1, 3, "!"), ("read_by", 1), ("count_by", 1), ("drop", p("/n")), ("read_by", 2),
           ("swap", p("/c"), p("/q")), ("put", p("/f"), 200, "t"), ("close", 1), ("drop", ())]
    TOLD = [("done", None), ("refused", "Taken"), ("done", None), ("done", 1), ("done", None), ("done", "top!"),
            ("done", 2), ("refused", "NotEmpty"), ("refused", "NoHandle"), ("refused", "NoThing"),
            ("refused", "TooLong"), ("done", None), ("refused", "Within")]

    def test_the_top_and_what_done_told(self):
        pair = replayed([BASE], PLENTY, self.ROW)
        self.assertIs(type(pair), tuple)
        top, told = pair
        self.assertIs(type(top), Top)
        self.assertEqual(told, self.TOLD)
        self.assertEqual(top.told_layer(), lay("gone /a", "folder /n alone", "folder /n/a over /a", "data of /f =top!"))
        self.assertEqual((top.used_room(), top.free_room(), top.handles()), (8, PLENTY - 8, []))

    def test_no_deeds(self):
        top, told = replayed([BASE], 7, [])
        self.assertEqual((told, top.told_layer(), top.free_room()), ([], EMPTY, 7))
        top, told = replayed([], 0, [])
        self.assertEqual((told, top.walked()), ([], []))

    def test_room_too_small(self):
        row = [("write", p("/f"), "longer"), ("make_folder", p("/n")), ("make_folder", p("/o")), ("write", p("/q"), ""),
               ("make_folder", p("/p")), ("drop", p("/e")), ("drop", p("/n")), ("drop", p("/e"))]
        top, told = replayed([BASE], 2, row)
        self.assertEqual(told, [("refused", "NoRoom"), ("done", None), ("done", None), ("refused", "NoThing"),
                                ("refused", "NoRoom"), ("refused", "NoRoom"), ("done", None), ("done", None)])
        self.assertEqual((top.told_layer(), top.free_room()), (lay("gone /e", "folder /o alone"), 0))
        self.assertEqual(replayed([BASE], 0, row)[1][1], ("refused", "NoRoom"))

    def test_handles_stay_open_on_the_top(self):
        top, told = replayed([BASE], PLENTY, [("hold", p("/f")), ("drop", p("/f")), ("drop", p("/x"))])
        self.assertEqual((top.handles(), top.read_by(1), top.count_by(1)), ([1], "top", 0))
        top.name_by(1, p("/n"))
        self.assertEqual(top.told_layer(), lay("gone /f", "file /n 0", "gone /x", "data of /f"))

    def test_layers_that_do_not_fit(self):
        self.no_fit(1, replayed, [BASE, BAD, BAD], 0, self.ROW)
        self.no_fit(0, replayed, [BAD], PLENTY, [])

    def test_what_is_handed_in_stays_and_what_is_told_is_the_askers_own(self):
        layers, row = [BASE], list(self.ROW)
        top, told = replayed(layers, PLENTY, row)
        self.assertEqual((layers, row), ([BASE], self.ROW))
        layer = top.told_layer()
        told.clear()
        layers.clear()
        row.clear()
        other, again = replayed([BASE], PLENTY, self.ROW)
        self.assertEqual(again, self.TOLD)
        other.drop(p("/e"))
        self.assertEqual(top.told_layer(), layer)

    def test_deeds_that_deeds_for_told(self):
        layers, layer = [BASE], lay("folder /a over /c", "folder /c over /a", "data of /f =t")
        told = deeds_for(layers, layer)
        top, answers = replayed(layers, PLENTY, told)
        self.assertEqual(answers, [("done", None)] * len(told))
        self.assertEqual(top.told_layer(), layer)

    def test_by_chance_as_one_by_one(self):
        refusals = {}
        for seed in range(60):
            dice = Dice(seed)
            layers, row, told = layers_of_both(dice, dice.below(4)), [], []
            room = 5 + dice.below(60)
            top, model = Top(layers, room), TopModel(layers)
            for turn in range(40):
                row.append(a_deed(dice, model))
                told.append(done(top, row[-1]))
                if told[-1][0] == "done":
                    model.done(row[-1])
                else:
                    refusals[told[-1][1]] = True
            twin, answers = replayed(layers, room, row)
            self.assertEqual(answers, told)
            self.assertEqual((state_of(twin), twin.told_layer(), twin.free_room()),
                             (state_of(top), top.told_layer(), top.free_room()))
        self.assertEqual(sorted(refusals), ["NoHandle", "NoRoom", "NoThing", "NotEmpty", "Taken", "TooLong", "Within",
                                            "WrongKind"])


def is_small(layers):
    """Within the bounds of point 20."""
    rows = traced(layers)
    return len(rows) <= 80 and max([len(row[0]) for row in rows], default=0) <= 6


class ByChance(DeedsTest):
    def check_each(self, layers):
        met = 0
        for count, layer in enumerate(layers):
            if is_small(layers[:count]) and is_small(layers[:count + 1]):
                self.comes(layers[:count], layer)
                met += 1
        return met

    def test_layers_made_by_long_rows_of_deeds(self):
        met = folders_moved = files_moved = 0
        for seed in range(90):
            dice = Dice(seed)
            layers = layers_by_deeds(dice, 3, 20 + dice.below(120))
            met += self.check_each(layers)
            for entries, files in layers:
                folders_moved += len([row for row in entries if row[1] == "folder" and row[2] not in (None, row[0])])
                files_moved += len([row for row in entries if row[1] == "file" and files[row[2]][0] is not None])
        self.assertGreater(met, 120)
        self.assertGreater(folders_moved, 100)
        self.assertGreater(files_moved, 100)

    def test_layers_by_chance(self):
        met = 0
        for seed in range(100):
            dice = Dice(seed)
            layers = layers_of_both(dice, 1 + dice.below(5))
            layer = LayerMaker(dice, layers, dice.below(2) == 0).made()
            if Stack(layers + [layer]).misfit() is not None:
                self.no_fit(len(layers), deeds_for, layers, layer)
            else:
                met += self.check_each(layers + [layer])
        self.assertGreater(met, 150)


if __name__ == "__main__":
    unittest.main()
