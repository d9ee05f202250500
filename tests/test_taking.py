"""Layers taken to others: as they are, what is lost, and the part that is kept."""

import inspect
import unittest

from overfold import taking
from overfold.layers import layer_text
from overfold.leasts import least
from overfold.pressing import pressed_all
from overfold.taking import kept_part, lost, taken
from overfold.views import misfit, shown
from layer_dice import LayerMaker, layers_of_both, row_text
from layer_help import BASE, EMPTY, MANY_NAMES, FitTest, Stack, lay
from shelf_help import chain, p
from shelf_model import Dice

BAD = lay("folder /n over /q")
LOOSE = lay("folder /a over /a", "gone /q", "data of /f =top")
DEEP = lay(*[f"folder {path} alone" for path in chain("a", 8)])
MANY = lay(*[f"folder /{name} alone" for name in MANY_NAMES])

# A layer over BASE with a row and a pair of each form.
FULL = lay(
    "folder /a over /a", "gone /a/b", "file /a/n 0", "folder /c alone", "folder /c/b over /a/b", "file /c/b/g 1",
    "folder /e over /e", "file /e/x 2", "file /f 3", "gone /x",
    "data of /a/g =g", "data of /f", "data =own", "data of /a/b/f =deeper")


class TakingTest(FitTest):
    def loses(self, layer, others, *wanted):
        found = lost([BASE], layer, others)
        self.assertIs(type(found), list)
        self.assertEqual(found, [(kind, p(what) if kind == "entry" else what) for kind, what in wanted])

    def keeps(self, layer, others, *rows):
        before = repr((layer, others))
        told = kept_part([BASE], layer, others)
        self.assertEqual(layer_text(told).split("\n"), list(rows) or [""])
        self.assertEqual(repr((layer, others)), before)
        self.assertIsNone(misfit(others, told))
        self.assertEqual(least(others, told), told)


class Interface(unittest.TestCase):
    def test_arguments(self):
        for name in ("taken", "lost", "kept_part"):
            arguments = list(inspect.signature(getattr(taking, name)).parameters)
            self.assertEqual(arguments, ["layers", "layer", "others"])


class Taken(TakingTest):
    def test_onto_the_same_layers(self):
        self.assertEqual(taken([BASE], FULL, [BASE]), least([BASE], FULL))
        self.assertEqual(taken([BASE], LOOSE, [BASE]), EMPTY)
        self.assertEqual(taken([], BASE, []), BASE)

    def test_onto_others_that_show_the_same(self):
        layers = [BASE, lay("gone /a", "folder /n over /a"), lay("data of /f =new")]
        layer = lay("folder /n over /n", "gone /n/g", "file /o 0", "data of /f =new")
        wanted = lay("folder /n over /n", "gone /n/g", "file /o 0", "data of /f")
        for others in (layers, pressed_all(layers), layers + [EMPTY], [EMPTY] + layers):
            self.assertEqual(shown(others).walked(), shown(layers).walked())
            self.assertEqual(taken(layers, layer, others), wanted)

    def test_onto_others_that_show_otherwise(self):
        layer = lay("folder /a over /a", "gone /a/g", "folder /a/n alone", "gone /x", "data of /f =new")
        others = [lay("folder /a alone", "folder /a/n alone", "file /f 0", "data =new")]
        self.assertEqual(taken([BASE], layer, others), lay("folder /a over /a", "folder /a/n alone"))
        others = [lay("folder /a alone", "file /a/g 0", "file /f 1", "file /x 2", "data =t", "data =u", "data =v")]
        self.assertEqual(taken([BASE], layer, others), layer)

    def test_a_text_of_none_is_that_of_the_others(self):
        layer = lay("file /n 0", "data of /f")
        others = [lay("file /f 0", "data =other")]
        self.assertEqual(taken([BASE], layer, others), layer)
        self.assertEqual(shown(others + [taken([BASE], layer, others)]).text_of(p("/n")), "other")

    def test_refused_as_least_is(self):
        for others, number in (([], 0), ([EMPTY], 1), ([BASE, lay("gone /f")], 2), ([BASE, BAD], 1), ([BAD, BASE], 0),
                               ([BASE, EMPTY, BAD, BAD], 2)):
            self.no_fit(number, least, others, FULL)
            self.no_fit(number, taken, [BASE], FULL, others)
        self.no_fit(1, taken, [EMPTY], EMPTY, [BASE, BAD])

    def test_refused_for_many_deep_and_twice(self):
        self.no_fit(1, taken, [], lay("folder /z alone"), [MANY])
        self.no_fit(2, taken, [], lay("gone /a", "folder /b alone", "folder /b/a over /a"), [EMPTY, DEEP])
        self.no_fit(1, taken, [BASE], lay("folder /n over /e"), [BASE])

    def test_of_layers_nothing_is_asked(self):
        for layers in ([], [BAD], [EMPTY, BAD], [MANY]):
            self.assertEqual(taken(layers, FULL, [BASE]), least([BASE], FULL))


class Lost(TakingTest):
    def test_nothing(self):
        self.loses(FULL, [BASE])
        self.loses(EMPTY, [])
        self.loses(BASE, [])
        self.loses(lay("folder /n alone", "file /o 0", "gone /q", "data =t"), [])

    def test_rows_then_pairs_in_order(self):
        self.loses(FULL, [], ("entry", "/a"), ("entry", "/c/b"), ("entry", "/e"), ("file", 0), ("file", 1), ("file", 3))
        self.loses(FULL, [BASE, lay("gone /a")], ("entry", "/a"), ("entry", "/c/b"), ("file", 0), ("file", 3))
        self.loses(FULL, [BASE, lay("gone /e", "gone /f")], ("entry", "/e"), ("file", 1))

    def test_pairs_in_the_order_of_their_numbers(self):
        layer = lay("file /m 2", "file /n 0", "data of /z", "data of /f", "data of /b =t")
        self.loses(layer, [BASE], ("file", 0), ("file", 2))
        self.loses(layer, [], ("file", 0), ("file", 1), ("file", 2))

    def test_what_is_beneath_such_a_row_counts_by_itself(self):
        layer = lay("folder /n over /q", "folder /n/a over /a", "folder /n/a/b over /q", "folder /n/a/b/e over /e",
                    "file /n/f 0", "file /n/g 1", "data of /f", "data of /q")
        self.loses(layer, [BASE, lay("gone /e")],
                   ("entry", "/n"), ("entry", "/n/a/b"), ("entry", "/n/a/b/e"), ("file", 1))

    def test_a_file_where_a_folder_was_and_a_folder_where_a_file_was(self):
        others = [lay("file /a 0", "folder /f alone", "data =t")]
        self.loses(lay("folder /a over /a", "data of /f"), others, ("entry", "/a"), ("file", 0))

    def test_an_origin_that_is_a_name_but_not_the_first(self):
        self.loses(lay("data of /x", "data of /c/g =t", "data of /f"), [BASE], ("file", 0), ("file", 1))
        self.loses(lay("data of /x", "data of /c/g =t", "data of /f"),
                   [BASE, lay("folder /a over /a", "gone /a/g", "gone /f")], ("file", 2))
        self.loses(lay("data of /f"), [BASE, lay("file /b 0", "data of /f")], ("file", 0))

    def test_what_lies_under_a_file(self):
        self.loses(lay("folder /n over /f/q", "data of /x/q"), [BASE], ("entry", "/n"), ("file", 0))

    def test_pairs_in_no_row_and_of_no_text_too(self):
        self.loses(lay("data of /p", "data of /q =t"), [BASE], ("file", 0), ("file", 1))

    def test_many_deep_and_twice_lose_nothing(self):
        self.loses(lay("folder /z alone"), [MANY])
        self.loses(lay("gone /a", "folder /b alone", "folder /b/a over /a"), [DEEP])
        self.loses(lay("folder /n over /e", "folder /o over /e", "folder /p over /"), [BASE])

    def test_others_that_do_not_fit(self):
        self.no_fit(0, lost, [BASE], FULL, [BAD, BAD])
        self.no_fit(1, lost, [BASE], EMPTY, [BASE, BAD])

    def test_of_layers_nothing_is_asked(self):
        for layers in ([], [BAD], [BASE]):
            self.assertEqual(lost(layers, FULL, [BASE]), [])
            self.assertEqual(lost(layers, lay("data of /q"), [BASE]), [("file", 0)])

    def test_each_list_is_the_askers_own(self):
        others = [BASE]
        lost([], FULL, others).append(1)
        self.assertEqual(lost([], FULL, others), [])
        lost([], FULL, []).clear()
        self.assertEqual(len(lost([], FULL, [])), 6)
        self.assertEqual(others, [BASE])


class KeptPart(TakingTest):
    def test_all_where_nothing_is_lost(self):
        self.assertEqual(kept_part([BASE], FULL, [BASE]), least([BASE], FULL))
        self.keeps(LOOSE, [BASE])
        self.keeps(EMPTY, [])

    def test_folder_rows_become_alone(self):
        self.keeps(lay("folder /n over /q", "folder /n/m alone"), [BASE], "folder /n alone", "folder /n/m alone")
        self.keeps(lay("folder /a over /a"), [lay("file /a 0", "data =t")], "folder /a alone")
        self.keeps(lay("folder /e over /q"), [BASE], "folder /e alone")

    def test_a_folder_that_is_there_keeps_its_beneath_within_one_that_is_not(self):
        self.keeps(lay("gone /a", "folder /n over /q", "folder /n/a over /a", "gone /n/a/g"), [BASE],
                   "gone /a", "folder /n alone", "folder /n/a over /a", "gone /n/a/g")

    def test_marks_within_a_folder_that_becomes_alone_go(self):
        self.keeps(lay("folder /n over /q", "gone /n/f", "folder /n/o over /q", "gone /n/o/p"), [BASE],
                   "folder /n alone", "folder /n/o alone")

    def test_a_pair_with_a_text_and_a_row_loses_its_origin(self):
        self.keeps(lay("file /n 0", "data of /q =t"), [BASE], "file /n 0", "data =t")
        self.keeps(lay("file /m 0", "file /n 0", "data of /q ="), [BASE], "file /m 0", "file /n 0", "data =")
        self.keeps(lay("file /n 0", "data of /x =t"), [BASE], "file /n 0", "data =t")

    def test_a_pair_without_a_text_is_left_out_with_all_its_rows(self):
        self.keeps(lay("file /m 0", "folder /n alone", "file /n/m 0", "data of /q"), [BASE], "folder /n alone")
        self.keeps(lay("file /a 0", "file /f 0", "gone /x", "data of /x"), [BASE], "gone /x")

    def test_what_a_left_out_row_hid_is_there_again(self):
        others = [BASE]
        told = kept_part([], lay("file /a 0", "data of /q"), others)
        self.assertEqual(told, EMPTY)
        self.assertEqual(shown(others + [told]).kind_of(p("/a/b/f")), "file")

    def test_a_pair_with_a_text_and_no_row_is_left_out(self):
        self.keeps(lay("data of /q =t"), [BASE])
        self.keeps(lay("data of /q =t", "data of /f =u", "data of /x =v"), [BASE], "data of /f =u")

    def test_pairs_that_are_there_stay(self):
        self.keeps(lay("file /n 0", "data of /f", "data of /a/g =t"), [BASE],
                   "file /n 1", "data of /a/g =t", "data of /f")

    def test_numbers_behind_those_left_out(self):
        layer = lay("file /k 5", "file /l 3", "file /m 1", "file /n 4", "file /o 0", "file /p 2",
                    "data of /q", "data =m", "data of /r =p", "data of /f", "data of /s", "data of /a/g =k",
                    "data of /t =none")
        self.keeps(layer, [BASE], "file /k 0", "file /l 1", "file /m 2", "file /p 3",
                   "data of /a/g =k", "data of /f", "data =m", "data =p")

    def test_a_layer_of_all_forms(self):
        self.keeps(FULL, [], "folder /a alone", "file /a/n 0", "folder /c alone", "folder /c/b alone",
                   "folder /e alone", "file /e/x 1", "file /f 2", "data =g", "data =own", "data =deeper")
        self.keeps(FULL, [BASE, lay("gone /a")], "folder /a alone", "file /a/n 0", "folder /c alone",
                   "folder /c/b alone", "file /c/b/g 1", "folder /e over /e", "file /e/x 2", "file /f 3", "gone /x",
                   "data =g", "data of /f", "data =own", "data =deeper")

    def test_least_on_others(self):
        self.keeps(lay("folder /a over /a", "gone /q", "file /z 0", "data of /q", "data of /f =top"), [BASE])
        self.keeps(lay("folder /e over /e", "file /e/n 0", "data of /q"), [BASE])

    def test_refused_for_many_deep_and_twice(self):
        lost_too = ["file /zz 0", "data of /q =t"]
        self.no_fit(1, kept_part, [BASE], lay(*lost_too), [MANY])
        self.no_fit(2, kept_part, [], lay("gone /a", "folder /b alone", "folder /b/a over /a", *lost_too),
                    [EMPTY, DEEP])
        self.no_fit(1, kept_part, [BASE], lay("folder /n over /e", *lost_too), [BASE])
        self.no_fit(1, kept_part, [BASE], lay("folder /n over /", *lost_too), [BASE])

    def test_not_refused_where_what_is_left_out_or_alone_would_be_too_much(self):
        self.keeps(lay("file /zz 0", "data of /q"), [MANY])
        self.keeps(lay("folder /n over /q", "folder /o over /q"), [BASE], "folder /n alone", "folder /o alone")

    def test_others_that_do_not_fit_come_ahead_of_all(self):
        for layer in (EMPTY, FULL, BAD, lay("folder /n over /", "data of /q")):
            self.no_fit(1, kept_part, [BASE], layer, [BASE, BAD, BAD])
            self.no_fit(0, kept_part, [BASE], layer, [BAD, BASE])

    def test_of_layers_nothing_is_asked(self):
        for layers in ([], [BAD], [MANY, MANY]):
            self.assertEqual(kept_part(layers, FULL, [BASE]), least([BASE], FULL))
            self.assertEqual(kept_part(layers, lay("data of /q =t"), [BASE]), EMPTY)


def model_lost(layer, others):
    """What the document's words say of each row, asked of the model of what others show."""
    walked = Stack(others).walked()
    folders = [(), None] + [row[0] for row in walked if row[1] == "folder"]
    origins = [None] + [row[3] for row in walked if row[1] == "file"]
    return ([("entry", row[0]) for row in layer[0] if row[1] == "folder" and row[2] not in folders]
            + [("file", number) for number, pair in enumerate(layer[1]) if pair[0] not in origins])


def model_left(layer, missing):
    """The layer's rows edited as texts, numbers as they were, then read anew with the numbers that are left."""
    files = {number: layer_text(((), (pair,))) for number, pair in enumerate(layer[1])}
    used = [row[2] for row in layer[0] if row[1] == "file"]
    for kind, number in missing:
        if kind == "file":
            text = layer[1][number][1]
            files[number] = f"data ={text}" if text is not None and number in used else None
    left = [number for number in files if files[number] is not None]
    rows = []
    for row in layer[0]:
        if row[1] == "file":
            rows += [((row[0], "file", left.index(row[2])),)] if row[2] in left else []
        else:
            rows.append(((row[0], "folder", None) if ("entry", row[0]) in missing else row,))
    return lay(*[layer_text((entry, ())) for entry in rows], *[files[number] for number in left])


class ByChance(TakingTest):
    def check(self, layers, layer, others):
        words = row_text([layer] + others)
        missing = model_lost(layer, others)
        self.assertEqual(lost(layers, layer, others), missing, words)
        stack = Stack(others + [layer])
        if missing or stack.misfit() is not None:
            self.no_fit(len(others), taken, layers, layer, others)
        else:
            self.assertEqual(taken(layers, layer, others), stack.least(), words)
        left = Stack(others + [model_left(layer, missing)])
        if left.misfit() is not None:
            self.no_fit(len(others), kept_part, layers, layer, others)
            return (len(missing) > 0, "refused")
        self.assertEqual(kept_part(layers, layer, others), left.least(), words)
        return (len(missing) > 0, "kept")

    def test_layers_taken_to_others_of_the_same_beginning(self):
        told = {}
        for seed in range(200):
            dice = Dice(seed)
            layers = layers_of_both(dice, 1 + dice.below(4))
            others = layers[:dice.below(len(layers) + 1)]
            for turn in range(dice.below(3)):
                more = LayerMaker(dice, others, False).made()
                others = others + [more] if Stack(others + [more]).misfit() is None else others
            found = self.check(layers, LayerMaker(dice, layers, dice.below(2) == 0).made(), others)
            told[found] = told.get(found, 0) + 1
        for found in ((True, "kept"), (True, "refused"), (False, "kept")):
            self.assertGreater(told.get(found, 0), 5, found)


if __name__ == "__main__":
    unittest.main()
