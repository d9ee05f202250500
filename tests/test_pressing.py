"""Layers pressed together: what the one layer tells, and that all that is shown stays."""

import inspect
import unittest

from overfold import pressing
from overfold.doing import done
from overfold.leasts import least
from overfold.pressing import pressed, pressed_all
from overfold.tops import Top
from overfold.views import shown, traced
from layer_dice import LayerMaker, layers_of_both, row_text
from layer_help import BASE, EMPTY, MANY_NAMES, FitTest, Stack, lay, trace_texts
from shelf_help import chain, p, state_of
from shelf_model import Dice, a_deed
from top_model import TopModel

BAD = lay("folder /n over /q")

# /a goes to /b, to /c, to /c/a; its files are written, linked and dropped on the way.
ROAD = [
    lay("folder /a alone", "folder /a/d alone", "file /a/f 0", "file /a/g 1", "file /o 1", "data =one", "data =four"),
    lay("gone /a", "folder /b over /a", "file /b/h 0", "data of /a/f =two"),
    lay("file /z 0", "data of /b/f"),
    lay("gone /b", "folder /c over /b", "gone /c/f", "data of /b/f =three", "data of /b/g =five"),
    lay("folder /c alone", "folder /c/a over /c", "gone /c/a/d", "folder /e over /c/d"),
    lay("folder /c over /c", "folder /c/a over /c/a", "gone /c/a/g", "file /z 0", "data =new"),
]


def gone_through(layers, at):
    """traced of the layers up to at + 1, with what lies beneath told in what the layers up to at - 1 show."""
    stack, level, told = Stack(layers[:at + 2]), at + 2, []
    for path in stack.paths(level):
        kind, rest = stack.look(level, path)
        if kind == "folder":
            told.append((path, kind, None if rest is None else stack.look(level - 1, rest)[1]))
        else:
            below = stack.look(level - 1, rest[1])[1] if rest[0] == "of" else ("own", 0)
            told.append((path, kind, below[1] if below[0] == "of" else None, stack.text(level, rest)))
    return told


class PressTest(FitTest):
    def check(self, layers, at):
        """The layers pressed at that place, held against the model and against all that is promised of them."""
        before, words = repr(layers), row_text(layers)
        told = pressed(layers, at)
        self.assertIs(type(told), list)
        self.assertEqual(repr(layers), before)
        self.assertEqual((told[:at], told[at + 1:]), (layers[:at], layers[at + 2:]), words)
        stack = Stack(told[:at + 1])
        self.assertIsNone(stack.misfit(), words)
        self.assertEqual(stack.traced(), gone_through(layers, at), words)
        self.assertEqual(stack.least(), told[at], words)
        self.assertEqual(least(told[:at], told[at]), told[at], words)
        for count in range(at + 2, len(layers) + 1):
            self.assertEqual(shown(told[:count - 1]).walked(), shown(layers[:count]).walked(), words)
        for count in range(at + 3, len(layers) + 1):
            self.assertEqual(traced(told[:count - 1]), traced(layers[:count]), words)
        return told[at]

    def presses(self, layers, *rows):
        """The last two layers come to these rows."""
        self.assertEqual(self.check(layers, len(layers) - 2), lay(*rows))


class Interface(unittest.TestCase):
    def test_arguments(self):
        for name, arguments in (("pressed", ["layers", "at"]), ("pressed_all", ["layers"])):
            self.assertEqual(list(inspect.signature(getattr(pressing, name)).parameters), arguments)


class Folders(PressTest):
    def test_over_one_that_the_lower_layer_has_over_another(self):
        self.presses([BASE, lay("gone /a", "folder /n over /a"), lay("gone /n", "folder /o over /n")],
                     "gone /a", "folder /o over /a")
        self.presses([BASE, lay("folder /a over /c", "folder /c over /a"), lay("gone /a", "folder /n over /a")],
                     "gone /a", "folder /c over /a", "folder /n over /c")

    def test_over_one_that_the_lower_layer_has_alone(self):
        self.presses([BASE, lay("folder /n alone", "file /n/f 0", "data =t"), lay("gone /n", "folder /o over /n")],
                     "folder /o alone", "file /o/f 0", "data =t")
        # What the lower layer hides beneath its folder comes back by none.
        self.presses([BASE, lay("folder /a alone"), lay("folder /a over /a", "folder /a/n alone")],
                     "folder /a alone", "folder /a/n alone")

    def test_over_one_that_is_there_by_itself(self):
        self.presses([BASE, EMPTY, lay("gone /a", "folder /n over /a", "gone /n/b")],
                     "gone /a", "folder /n over /a", "gone /n/b")
        self.presses([BASE, lay("gone /a", "folder /n over /a"), lay("folder /e over /n/b", "folder /n over /n",
                                                                     "gone /n/b")],
                     "gone /a", "folder /e over /a/b", "folder /n over /a", "gone /n/b")

    def test_by_themselves_in_both(self):
        self.presses([BASE, lay("gone /e"), lay("gone /f")], "gone /e", "gone /f")

    def test_alone_in_the_upper_one(self):
        self.presses([BASE, lay("folder /a over /c", "gone /c"), lay("folder /a alone")], "folder /a alone", "gone /c")
        self.presses([BASE, lay("gone /a", "folder /n over /a"), lay("folder /n alone")], "gone /a", "folder /n alone")

    def test_away_and_back_leave_no_rows(self):
        self.presses([BASE, lay("gone /a", "folder /n over /a"), lay("folder /a over /n", "gone /n")])
        swap = lay("folder /a over /c", "folder /c over /a")
        self.presses([BASE, swap, swap])

    def test_a_new_folder_in_the_place_of_an_old_one_is_not_the_old_one(self):
        self.presses([BASE, lay("gone /e"), lay("folder /e alone")], "folder /e alone")
        self.presses([BASE, lay("gone /a"), lay("folder /a alone", "folder /a/b alone")],
                     "folder /a alone", "folder /a/b alone")

    def test_rows_within_folders_of_both(self):
        self.presses([BASE, lay("folder /a over /a", "gone /a/g"),
                      lay("folder /a over /a", "folder /a/b over /a/b", "gone /a/b/f", "folder /a/n alone")],
                     "folder /a over /a", "folder /a/b over /a/b", "gone /a/b/f", "gone /a/g", "folder /a/n alone")

    def test_a_folder_over_one_of_its_own_folders_twice(self):
        lower = [lay(*[f"folder {path} alone" for path in chain("a", 4)])]
        once = lay("folder /a over /a/a")
        self.presses(lower + [once, once], "folder /a over /a/a/a")

    def test_the_root_lies_over_the_root(self):
        self.presses([lay("folder /a alone"), lay("folder /b alone")], "folder /a alone", "folder /b alone")

    def test_a_mark_of_nine_names(self):
        lower = lay(*[f"folder {path} alone" for path in chain("a", 8)])
        away = lay("gone /a", "folder /b alone", "folder /b/c alone", "folder /b/c/a over /a/a/a")
        new = ["folder /b/c/a/d alone", "folder /b/c/a/d/d alone", "folder /b/c/a/d/d/d alone",
               "folder /b/c/a/d/d/d/d alone"]
        deeper = lay("folder /b over /b", "folder /b/c over /b/c", "folder /b/c/a over /b/c/a", "gone /b/c/a/a", *new,
                     "folder /b/c/a/d/d/d/d/d over /b/c/a/a", "gone /b/c/a/d/d/d/d/d/a")
        self.presses([lower, away, deeper], "gone /a", "folder /b alone", "folder /b/c alone",
                     "folder /b/c/a over /a/a/a", "gone /b/c/a/a", *new, "folder /b/c/a/d/d/d/d/d over /a/a/a/a",
                     "gone /b/c/a/d/d/d/d/d/a")


class Marks(PressTest):
    def test_over_rows_of_the_lower_layer_that_are_new(self):
        self.presses([BASE, lay("folder /n alone", "file /n/f 0", "data =t"), lay("gone /n")])
        self.presses([BASE, lay("file /n 0", "file /o 0", "data =t"), lay("gone /n")], "file /o 0", "data =t")

    def test_over_rows_of_the_lower_layer_where_something_is_beneath(self):
        self.presses([BASE, lay("folder /a over /a", "gone /a/b"), lay("gone /a")], "gone /a")
        self.presses([BASE, lay("file /f 0", "data =t"), lay("gone /f")], "gone /f")
        self.presses([BASE, lay("folder /f alone"), lay("gone /f")], "gone /f")

    def test_of_both(self):
        self.presses([BASE, lay("gone /e"), lay("gone /e", "gone /x")], "gone /e", "gone /x")

    def test_within_a_folder_that_moved(self):
        self.presses([BASE, lay("gone /a", "folder /n over /a"), lay("folder /n over /n", "gone /n/g")],
                     "gone /a", "folder /n over /a", "gone /n/g")
        self.presses([BASE, lay("folder /a over /a", "gone /a/g"), lay("gone /a", "folder /n over /a")],
                     "gone /a", "folder /n over /a", "gone /n/g")

    def test_of_the_lower_layer_that_the_upper_one_undoes(self):
        self.presses([BASE, lay("gone /x"), lay("file /x 0", "data of /f")])
        self.presses([BASE, lay("gone /f"), lay("file /f 0", "data of /x")])


class Files(PressTest):
    def test_origins_through_both(self):
        self.presses([BASE, lay("gone /f", "file /n 0", "gone /x", "data of /f"),
                      lay("gone /n", "file /o 0", "data of /n")], "gone /f", "file /o 0", "gone /x", "data of /f")

    def test_an_origin_that_is_new_in_the_lower_layer(self):
        self.presses([BASE, lay("file /n 0", "data =t"), lay("gone /n", "file /o 0", "data of /n")],
                     "file /o 0", "data =t")
        self.presses([BASE, lay("file /n 0", "data =t"), lay("data of /n =u")], "file /n 0", "data =u")

    def test_told_anew(self):
        self.presses([BASE, lay("data of /f =new"), lay("data of /f =newer")], "data of /f =newer")
        self.presses([BASE, lay("data of /f =new"), lay("data of /f =top")])
        self.presses([BASE, lay("data of /f =new"), lay("data of /f =")], "data of /f =")

    def test_a_text_in_one_of_both(self):
        self.presses([BASE, lay("data of /f =new"), lay("file /n 0", "data of /f")],
                     "file /n 0", "data of /f =new")
        self.presses([BASE, lay("file /n 0", "data of /f"), lay("data of /f =new")],
                     "file /n 0", "data of /f =new")
        self.presses([BASE, lay("file /n 0", "data of /f"), lay("gone /n", "data of /f")])

    def test_in_no_row(self):
        self.presses([BASE, lay("data of /a/g =x"), lay("data of /f =y")], "data of /a/g =x", "data of /f =y")
        self.presses([BASE, lay("data of /a/g =x"), EMPTY], "data of /a/g =x")
        self.presses([BASE, EMPTY, lay("data of /a/g =x")], "data of /a/g =x")
        self.presses([BASE, lay("data of /a/b/f =x"), lay("gone /a")], "gone /a")

    def test_a_first_path_that_is_another_one_in_between(self):
        # In between the file of /a/g has /b as its first path ahead of /c/g.
        self.presses([BASE, lay("folder /a over /a", "gone /a/g", "file /b 0", "data of /a/g"),
                      lay("file /n 0", "data of /b =x")],
                     "folder /a over /a", "gone /a/g", "file /b 0", "file /n 0", "data of /a/g =x")

    def test_files_of_several_names(self):
        self.presses([BASE, lay("file /m 0", "file /n 0", "data =t"), lay("gone /m", "file /o 0", "data of /m")],
                     "file /n 0", "file /o 0", "data =t")
        self.presses([BASE, lay("gone /f", "file /n 0", "file /o 0", "gone /x", "data of /f =new"),
                      lay("file /f 0", "gone /n", "data of /n =top")], "file /o 0", "gone /x", "data of /f")
        self.presses([BASE, EMPTY, lay("file /a 0", "file /c 0", "file /e 0", "data of /a/g =x")],
                     "file /a 0", "file /c 0", "file /e 0", "data of /a/g =x")

    def test_one_file_moved_over_another(self):
        self.presses([BASE, lay("file /f 0", "gone /x", "data =t"), lay("file /x 0", "data of /f")],
                     "file /f 0", "file /x 0", "data =t")
        self.presses([BASE, lay("folder /a over /a", "file /a/g 0", "file /f 1", "data of /f", "data of /a/g"),
                      lay("folder /a over /a", "file /a/g 0", "file /f 1", "data of /c/g", "data of /a/g")])

    def test_numbers_come_anew(self):
        self.presses([BASE, lay("file /n 0", "file /o 1", "data =n", "data =o"),
                      lay("file /b 0", "gone /n", "data of /o", "data of /a/b/f =x")],
                     "file /b 1", "file /o 1", "data of /a/b/f =x", "data =o")


class Lists(PressTest):
    def test_at_each_place_of_two_to_six(self):
        for count in range(2, 7):
            for at in range(count - 1):
                self.check(ROAD[:count], at)
        self.assertEqual(trace_texts(traced(ROAD)), [
            "/c over /c", "/c/a over /c/a", "/c/a/h of /c/a/h =three", "/e over /e", "/o of /c/a/g =five",
            "/z =new"])

    def test_the_worked_road(self):
        self.assertEqual(pressed(ROAD, 1)[1], lay(
            "gone /a", "folder /b over /a", "file /b/h 0", "file /z 0", "data of /a/f =two"))
        self.assertEqual(pressed(ROAD, 3)[3], lay(
            "gone /b", "folder /c alone", "folder /c/a over /b", "gone /c/a/d", "gone /c/a/f", "folder /e over /b/d",
            "data of /b/g =five", "data of /b/f =three"))

    def test_layers_that_are_kept_are_kept_as_they_are(self):
        loose = lay("folder /a over /a", "gone /q")
        self.assertEqual(pressed([BASE, loose, lay("gone /e"), lay("gone /f"), loose], 2),
                         [BASE, loose, lay("gone /e", "gone /f"), loose])

    def test_what_comes_is_least(self):
        loose = lay("folder /a over /a", "gone /q", "data of /f =top")
        self.presses([BASE, loose, loose])
        self.presses([lay("gone /q"), lay("folder /a alone", "gone /a/q", "gone /z")], "folder /a alone")

    def test_layers_without_rows(self):
        self.assertEqual(pressed([EMPTY, EMPTY], 0), [EMPTY])
        self.assertEqual(pressed([BASE, EMPTY, EMPTY], 1), [BASE, EMPTY])
        self.assertEqual(pressed([BASE, EMPTY, EMPTY], 0), [BASE, EMPTY])

    def test_seven_layers(self):
        self.check(ROAD + [lay("gone /z")], 5)
        self.check(ROAD + [lay("gone /z")], 0)

    def test_two_hundred_paths(self):
        lower = lay(*[f"folder /{name} alone" for name in MANY_NAMES])
        upper = lay(*[f"gone /{name}" for name in MANY_NAMES])
        other = lay(*[f"folder /z{name} alone" for name in MANY_NAMES])
        told = self.check([lower, upper, other], 1)
        self.assertEqual(len(told[0]), 400)
        self.assertEqual(self.check([lower, upper, other], 0), EMPTY)

    def test_each_list_is_the_askers_own(self):
        layers = list(ROAD)
        told = pressed(layers, 2)
        kept = list(told)
        told.clear()
        self.assertEqual(pressed(layers, 2), kept)
        self.assertEqual(layers, ROAD)
        again = pressed(layers, 2)
        layers.clear()
        self.assertEqual(again, kept)

    def test_what_was_told_may_be_handed_in_again(self):
        layers = list(ROAD)
        while len(layers) > 1:
            self.check(layers, 0)
            layers = pressed(layers, 0)
        self.assertEqual(layers, pressed_all(ROAD))

    def test_any_order_comes_to_the_same(self):
        first = pressed(pressed(ROAD[:3], 0), 0)
        self.assertEqual(first, pressed(pressed(ROAD[:3], 1), 0))
        self.assertEqual(pressed(pressed(ROAD, 3), 1), pressed(pressed(ROAD, 1), 2))
        self.assertEqual(pressed(pressed(ROAD, 2), 2), pressed(pressed(ROAD, 3), 2))


class TopsOver(PressTest):
    def test_a_top_over_pressed_layers_tells_the_same(self):
        for at in range(5):
            tops = [Top(ROAD, 100), Top(pressed(ROAD, at), 100)]
            for deed in (("hold", p("/o")), ("move", p("/c/a"), p("/n")), ("write", p("/n/h"), "w"), ("drop", p("/o")),
                         ("swap", p("/n"), p("/e")), ("drop", p("/c")), ("put_by", 1, 2, "!!"),
                         ("make_file", p("/n/f"), "t")):
                self.assertEqual([done(top, deed)[0] for top in tops], ["done"] * 2, deed)
                self.assertEqual(tops[0].told_layer(), tops[1].told_layer())
                self.assertEqual(tops[0].used_room(), tops[1].used_room())
                self.assertEqual(state_of(tops[0]), state_of(tops[1]))


class Refused(PressTest):
    def test_the_number_is_that_which_shown_tells(self):
        for layers, number in (([BAD, EMPTY], 0), ([BASE, BAD], 1), ([BASE, BAD, BAD], 1), ([BASE, EMPTY, BAD], 2),
                               ([BASE, EMPTY, EMPTY, lay("data of /x")], 3), ([BASE] * 2 + [EMPTY] * 3 + [BAD], 5)):
            self.no_fit(number, shown, layers)
            for at in range(len(layers) - 1):
                self.no_fit(number, pressed, layers, at)
            self.no_fit(number, pressed_all, layers)

    def test_one_alone(self):
        self.no_fit(0, pressed_all, [BAD])
        self.no_fit(0, pressed_all, [lay("folder /a over /")])

    def test_twice_and_deep_and_many(self):
        deep = lay(*[f"folder {path} alone" for path in chain("a", 8)])
        many = lay(*[f"folder /{name} alone" for name in MANY_NAMES])
        for layers in ([BASE, lay("folder /n over /e")], [many, lay("folder /z alone")],
                       [deep, lay("gone /a", "folder /b alone", "folder /b/a over /a")]):
            self.no_fit(1, pressed, layers, 0)
            self.no_fit(1, pressed_all, layers)
            self.no_fit(2, pressed, [EMPTY] + layers, 0)


class All(PressTest):
    def test_none(self):
        self.assertEqual(pressed_all([]), [])

    def test_one_that_is_least(self):
        self.assertEqual(pressed_all([BASE]), [BASE])
        self.assertEqual(pressed_all([EMPTY]), [EMPTY])

    def test_one_that_is_not_least(self):
        loose = lay("folder /a alone", "gone /a/q", "file /b 1", "file /c 0", "gone /q", "data =c", "data =b")
        self.assertEqual(pressed_all([loose]), [lay("folder /a alone", "file /b 0", "file /c 1", "data =b", "data =c")])

    def test_several(self):
        self.assertEqual(pressed_all([BASE] + [EMPTY] * 5), [BASE])
        self.assertEqual(pressed_all([BASE, lay("gone /a", "gone /e"), lay("data of /c/g =x", "data of /f =")]),
                         [lay("folder /c alone", "file /c/g 0", "file /f 1", "file /x 1", "data =x", "data =")])
        self.assertEqual(pressed_all(ROAD), [lay(
            "folder /c alone", "folder /c/a alone", "file /c/a/h 0", "folder /e alone", "file /o 1", "file /z 2",
            "data =three", "data =five", "data =new")])

    def test_nothing_that_is_handed_in_is_changed(self):
        layers = list(ROAD)
        told = pressed_all(layers)
        self.assertEqual(layers, ROAD)
        told.append(EMPTY)
        self.assertEqual(len(pressed_all(layers)), 1)
        none = []
        pressed_all(none).append(EMPTY)
        self.assertEqual(none, [])


class ByChance(PressTest):
    def check_all(self, dice, layers):
        told = pressed_all(layers)
        self.assertEqual(told, [Stack([whole_layer(layers)]).least()] if layers else [], row_text(layers))
        left = layers
        while len(left) > 1:
            left = pressed(left, dice.below(len(left) - 1))
        self.assertEqual(left if len(layers) > 1 else told, told, row_text(layers))

    def check_top(self, dice, layers, at):
        tops, model = [Top(layers, 60), Top(pressed(layers, at), 60)], TopModel(layers)
        for turn in range(12):
            deed = a_deed(dice, model)
            answers = [done(top, deed) for top in tops]
            if answers[0][0] == "done":
                model.done(deed)
            self.assertEqual(answers[0], answers[1], deed)
            self.assertEqual(tops[0].told_layer(), tops[1].told_layer(), deed)
            self.assertEqual(tops[0].used_room(), tops[1].used_room(), deed)

    def test_layers(self):
        places = 0
        for seed in range(150):
            dice = Dice(seed)
            layers = layers_of_both(dice, 1 + dice.below(6))
            for at in range(len(layers) - 1):
                self.check(layers, at)
                self.check_top(dice, layers, at)
                places += 1
            self.check_all(dice, layers)
        self.assertGreater(places, 250)

    def test_layers_that_need_not_fit(self):
        refusals = 0
        for seed in range(120):
            dice = Dice(seed)
            layers = layers_of_both(dice, 1 + dice.below(3))
            layers = layers + [LayerMaker(dice, layers, True).made(), EMPTY]
            if Stack(layers[:-1]).misfit() is not None:
                refusals += 1
                for at in range(len(layers) - 1):
                    self.no_fit(len(layers) - 2, pressed, layers, at)
                self.no_fit(len(layers) - 2, pressed_all, layers)
        self.assertGreater(refusals, 20)


def whole_layer(layers):
    """A layer by itself that shows all that layers show, its files in any order."""
    told = Stack(layers).walked()
    firsts = [row[0] for row in told if row[1] == "file" and row[3] == row[0]][::-1]
    texts = {row[0]: row[2] for row in told if row[1] == "file"}
    entries = tuple((row[0], "folder", None) if row[1] == "folder" else (row[0], "file", firsts.index(row[3]))
                    for row in told)
    return entries, tuple((None, texts[first]) for first in firsts)


if __name__ == "__main__":
    unittest.main()
