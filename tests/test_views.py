"""What layers show, where a layer fits, and what each thing has beneath it."""

import inspect
import unittest

from overfold import views
from overfold.errors import NoFit
from overfold.shelf import Shelf
from overfold.views import misfit, shown, traced
from layer_dice import LayerMaker, row_text, some_layers
from layer_help import BASE, EMPTY, MANY_NAMES, Stack, lay, trace_texts
from shelf_help import chain, p, sample, state_of, walk_texts
from shelf_model import Dice


def one_file_rows(paths):
    return [f"file {path} 0" for path in paths] + ["data =t"]


def chain_rows(name, length):
    return [f"folder {path} alone" for path in chain(name, length)]


class ViewTest(unittest.TestCase):
    def shows(self, layers, *rows):
        self.assertEqual(walk_texts(shown(layers)), list(rows))

    def traces(self, layers, *rows):
        self.assertEqual(trace_texts(traced(layers)), list(rows))

    def no_fit(self, layers, number):
        for call in (shown, traced, lambda asked: misfit(asked, EMPTY)):
            with self.assertRaises(NoFit) as caught:
                call(layers)
            self.assertIs(type(caught.exception), NoFit)
            self.assertEqual(caught.exception.number, number)


class Interface(unittest.TestCase):
    def test_arguments(self):
        for name, arguments in (("misfit", ["layers", "layer"]), ("shown", ["layers"]), ("traced", ["layers"])):
            self.assertEqual(list(inspect.signature(getattr(views, name)).parameters), arguments)


class Shown(ViewTest):
    def test_no_layers_show_the_empty_shelf(self):
        self.shows([])
        self.traces([])
        self.assertEqual(shown([]).kind_of(()), "folder")
        self.assertEqual(shown([]).handles(), [])

    def test_layers_without_rows_show_what_is_beneath(self):
        self.shows([EMPTY])
        self.shows([EMPTY] * 6)
        self.assertEqual(shown([BASE] + [EMPTY] * 5).walked(), sample().walked())
        self.assertEqual(shown([EMPTY] * 5 + [BASE]).walked(), sample().walked())

    def test_one_layer_over_the_empty_shelf(self):
        self.assertEqual(shown([BASE]).walked(), sample().walked())
        self.assertIsInstance(shown([BASE]), Shelf)

    def test_the_shelf_does_as_any_other(self):
        shelf, plain = shown([BASE]), sample()
        for one in (shelf, plain):
            self.assertEqual(one.hold(p("/c/g")), 1)
            one.write(p("/a/g"), "new")
            one.move(p("/a"), p("/e"))
            one.drop(p("/c/g"))
            one.make_file(p("/a"), "t")
        self.assertEqual(state_of(shelf), state_of(plain))
        self.assertEqual(shelf.read_by(1), "new")

    def test_what_is_done_to_a_shown_shelf_changes_no_later_one(self):
        layers = [BASE, lay("gone /e")]
        shelf = shown(layers)
        before = shelf.walked()
        shelf.write(p("/f"), "new")
        shelf.drop(p("/a/g"))
        self.assertEqual(shown(layers).walked(), before)
        self.assertEqual(layers, [BASE, lay("gone /e")])

    def test_a_new_folder_and_a_new_file(self):
        layer = lay("folder /d alone", "file /d/f 0", "file /n 1", "data =in d", "data =")
        self.assertEqual(walk_texts(shown([BASE, layer])),
                         sorted(walk_texts(shown([BASE])) + ["/d", "/d/f =in d", "/n ="]))

    def test_a_mark_hides_a_file_a_folder_or_one_of_several_names(self):
        self.shows([BASE, lay("gone /a", "gone /c", "gone /f")], "/e", "/x =top")
        self.shows([BASE, lay("gone /a", "gone /e", "gone /x")], "/c", "/c/g =one", "/f =top")

    def test_a_mark_of_what_is_not_there_hides_nothing(self):
        layer = lay("folder /d alone", "gone /d/q", "gone /q")
        self.assertEqual(shown([BASE, lay("gone /q")]).walked(), shown([BASE]).walked())
        self.shows([layer], "/d")

    def test_a_folder_alone_hides_what_is_beneath(self):
        layer = lay("folder /a alone", "folder /a/c alone", "gone /c", "gone /e", "gone /f", "gone /x")
        self.shows([BASE, layer], "/a", "/a/c")

    def test_a_file_in_the_place_of_a_folder_and_a_folder_in_that_of_a_file(self):
        layer = lay("file /a 0", "gone /c", "gone /e", "folder /f alone", "folder /f/g alone", "data =now")
        self.shows([BASE, layer], "/a =now", "/f", "/f/g", "/x =top")

    def test_a_folder_over_its_own_folder_beneath_with_names_told_hidden_and_by_themselves(self):
        layer = lay("folder /a over /a", "gone /a/b", "file /a/n 0", "gone /c", "gone /e", "gone /f", "gone /x",
                    "data =new")
        self.traces([BASE, layer], "/a over /a", "/a/g of /a/g =one", "/a/n =new")

    def test_a_folder_over_another_one(self):
        layer = lay("gone /a", "folder /e over /a", "gone /e/g", "folder /e/n alone", "gone /f", "gone /x")
        self.traces([BASE, layer], "/c over /c", "/c/g of /a/g =one", "/e over /a", "/e/b over /a/b",
                    "/e/b/f of /a/b/f =deep", "/e/n alone")

    def test_a_deep_folder_over_a_folder_that_is_hidden_above(self):
        layer = lay("gone /a", "folder /c over /c", "folder /c/n over /a/b", "gone /e", "gone /f", "gone /x")
        self.traces([BASE, layer], "/c over /c", "/c/g of /a/g =one", "/c/n over /a/b", "/c/n/f of /a/b/f =deep")

    def test_two_folders_each_over_the_other(self):
        layer = lay("folder /a over /c", "folder /c over /a", "gone /e", "gone /f", "gone /x")
        self.traces([BASE, layer], "/a over /c", "/a/g of /a/g =one", "/c over /a", "/c/b over /a/b",
                    "/c/b/f of /a/b/f =deep", "/c/g of /a/g =one")
        self.assertEqual(walk_texts(shown([BASE, layer]))[-1], "/c/g -> /a/g =one")

    def test_a_folder_over_one_of_its_own_folders(self):
        layer = lay("folder /a over /a/b", "gone /c", "gone /e", "gone /f", "gone /x")
        self.traces([BASE, layer], "/a over /a/b", "/a/f of /a/b/f =deep")

    def test_a_folder_within_the_one_that_it_lies_over(self):
        # The outer one is alone, so that no two lie over /a.
        layer = lay("folder /a alone", "folder /a/b over /a", "gone /c", "gone /e", "gone /f", "gone /x")
        self.traces([BASE, layer], "/a alone", "/a/b over /a", "/a/b/b over /a/b", "/a/b/b/f of /a/b/f =deep",
                    "/a/b/g of /a/g =one")


class Files(ViewTest):
    def test_a_text_told_for_an_origin_stands_wherever_the_file_is(self):
        layer = lay("gone /a", "gone /e", "data of /a/g =new", "data of /f =all")
        self.traces([BASE, layer], "/c over /c", "/c/g of /a/g =new", "/f of /f =all", "/x of /f =all")

    def test_a_text_of_none_is_that_beneath(self):
        layer = lay("gone /a", "gone /c", "gone /e", "file /n 0", "data of /f")
        self.traces([BASE, layer], "/f of /f =top", "/n of /f =top", "/x of /f =top")
        self.assertTrue(shown([BASE, layer]).same_file(p("/n"), p("/x")))

    def test_an_empty_text_is_told_too(self):
        layer = lay("gone /a", "gone /c", "gone /e", "data of /f =")
        self.traces([BASE, layer], "/f of /f =", "/x of /f =")

    def test_a_pair_in_no_row_of_a_file_that_is_hidden_shows_nothing(self):
        layer = lay("gone /a", "gone /c", "gone /e", "gone /f", "gone /x", "data of /a/g =new", "data of /f")
        self.traces([BASE, layer])

    def test_several_names_of_a_new_file(self):
        layer = lay("file /m 0", "folder /n alone", "file /n/o 0", "file /p 1", "data =same", "data =same")
        shelf = shown([layer])
        self.assertEqual(walk_texts(shelf), ["/m =same", "/n", "/n/o -> /m =same", "/p =same"])
        self.assertEqual([shelf.count_of(p("/m")), shelf.count_of(p("/p"))], [2, 1])
        self.assertFalse(shelf.same_file(p("/m"), p("/p")))

    def test_rows_and_names_by_themselves_are_one_file(self):
        layer = lay("folder /c over /c", "file /c/n 0", "gone /e", "file /z 0", "data of /a/g =new")
        shelf = shown([BASE, layer])
        self.assertEqual(shelf.count_of(p("/z")), 4)
        for path in ("/a/g", "/c/g", "/c/n", "/z"):
            self.assertEqual(shelf.text_of(p(path)), "new")
            self.assertTrue(shelf.same_file(p(path), p("/a/g")))

    def test_numbers_are_those_of_the_pairs(self):
        layer = lay("file /k 2", "file /l 0", "file /m 1", "file /n 2", "data =zero", "data =one", "data =two")
        self.shows([layer], "/k =two", "/l =zero", "/m =one", "/n -> /k =two")

    def test_a_file_in_the_place_of_another_one(self):
        layer = lay("gone /a", "gone /c", "gone /e", "file /f 0", "data of /a/b/f")
        self.traces([BASE, layer], "/f of /a/b/f =deep", "/x of /f =top")

    def test_a_file_that_several_layers_have_told(self):
        layers = [lay("file /f 0", "data =one"), lay("gone /f", "file /g 0", "data of /f =two"),
                  lay("file /a 0", "data of /g"), lay("data of /a =four"), lay("gone /a", "gone /g", "file /h 0",
                                                                            "data of /a")]
        wanted = [["/f =one"], ["/g of /f =two"], ["/a of /g =two", "/g of /g =two"],
                  ["/a of /a =four", "/g of /a =four"], ["/h of /a =four"]]
        for count, rows in enumerate(wanted, start=1):
            self.traces(layers[:count], *rows)

    def test_six_layers(self):
        layers = [lay("folder /a alone", "file /a/f 0", "data =one")]
        for turn in range(4):
            layers.append(lay("folder /a alone", "folder /a/a over /a", "folder /b alone"))
            layers.append(lay("folder /a over /a/a", "gone /b"))
        self.traces(layers[:5], "/a over /a/a", "/a/f of /a/a/f =one")
        self.traces(layers[:6], "/a alone", "/a/a over /a", "/a/a/f of /a/f =one", "/b alone")


class Traced(ViewTest):
    def test_paths_are_of_the_shelf_beneath_the_last_layer(self):
        layers = [BASE, lay("gone /a", "folder /b over /a"), EMPTY]
        self.assertIn("/b over /a", trace_texts(traced(layers[:2])))
        self.assertIn("/b over /b", trace_texts(traced(layers)))
        self.assertIn("/b/g of /a/g =one", trace_texts(traced(layers[:2])))
        self.assertIn("/b/g of /b/g =one", trace_texts(traced(layers)))

    def test_rising_paths_and_forms(self):
        told = traced([BASE, lay("folder /aa alone", "file /aa/f 0", "data of /f =new")])
        self.assertEqual([row[0] for row in told], sorted(row[0] for row in told))
        self.assertIn((("aa",), "folder", None), told)
        self.assertIn((("aa", "f"), "file", ("f",), "new"), told)
        self.assertIn((("a",), "folder", ("a",)), told)
        self.assertNotIn((), [row[0] for row in told])

    def test_each_answer_is_a_list_of_its_own(self):
        layers = [BASE]
        told = traced(layers)
        told.clear()
        self.assertEqual(len(traced(layers)), 9)
        self.assertEqual(layers, [BASE])


class Misfit(ViewTest):
    def misfits(self, layers, layer, told):
        self.assertEqual(misfit(layers, layer), told)
        if told is None:
            self.assertIsNotNone(shown(layers + [layer]))
        else:
            self.no_fit(layers + [layer], len(layers))

    def test_what_fits(self):
        self.misfits([], EMPTY, None)
        self.misfits([], BASE, None)
        self.misfits([BASE], EMPTY, None)
        self.misfits([BASE], BASE, None)
        self.misfits([BASE], lay("folder /a over /c", "folder /c over /a", "gone /q", "data of /f =t"), None)

    def test_a_folder_row_over_what_is_no_folder(self):
        self.misfits([], lay("folder /a over /a"), ("entry", p("/a")))
        self.misfits([BASE], lay("folder /n over /q"), ("entry", p("/n")))
        self.misfits([BASE], lay("folder /n over /f"), ("entry", p("/n")))
        self.misfits([BASE], lay("folder /n over /f/g"), ("entry", p("/n")))
        self.misfits([BASE], lay("folder /a over /a", "folder /a/c over /a/c"), ("entry", p("/a/c")))

    def test_a_folder_that_is_in_the_layer_alone_is_not_beneath(self):
        self.misfits([BASE], lay("folder /m alone", "folder /n over /m"), ("entry", p("/n")))

    def test_a_folder_that_an_earlier_layer_hid_is_not_beneath(self):
        self.misfits([BASE, lay("gone /e")], lay("folder /n over /e"), ("entry", p("/n")))
        self.misfits([BASE, lay("file /e 0", "data =t")], lay("folder /n over /e"), ("entry", p("/n")))

    def test_the_first_such_row_is_told(self):
        layer = lay("folder /m over /c", "gone /n", "folder /o over /f", "folder /p over /q")
        self.misfits([BASE], layer, ("entry", p("/o")))

    def test_other_rows_tell_of_nothing_beneath(self):
        self.misfits([BASE], lay("folder /m alone", "gone /m/n", "file /o 0", "gone /q", "data =t"), None)

    def test_an_origin_that_is_no_file(self):
        self.misfits([], lay("data of /f"), ("file", 0))
        self.misfits([BASE], lay("data of /q =t"), ("file", 0))
        self.misfits([BASE], lay("data of /a"), ("file", 0))
        self.misfits([BASE], lay("data of /f/g"), ("file", 0))
        self.misfits([BASE, lay("gone /a")], lay("data of /a/b/f"), ("file", 0))

    def test_an_origin_that_is_a_name_of_a_file_but_not_its_first_path(self):
        self.misfits([BASE], lay("data of /x"), ("file", 0))
        self.misfits([BASE], lay("data of /c/g =t"), ("file", 0))
        self.misfits([BASE, lay("gone /f")], lay("data of /x"), None)
        self.misfits([BASE, lay("file /b 0", "data of /f")], lay("data of /f"), ("file", 0))
        self.misfits([BASE, lay("file /b 0", "data of /f")], lay("data of /b"), None)

    def test_the_first_such_pair_is_told(self):
        layer = lay("file /n 1", "data of /f =t", "data =u", "data of /x", "data of /q", "data of /a/g")
        self.misfits([BASE], layer, ("file", 2))

    def test_two_hundred_paths_fit_and_one_more_does_not(self):
        rows = [f"/{name}" for name in MANY_NAMES]
        self.assertEqual(len(rows), 200)
        full = lay(*one_file_rows(rows))
        self.misfits([], full, None)
        self.misfits([], lay(*one_file_rows(rows + ["/z"])), ("many",))
        self.misfits([full], lay("folder /z alone"), ("many",))
        self.misfits([full], lay("gone /aa", "folder /z alone"), None)

    def test_paths_are_counted_as_they_come(self):
        # A hundred within /a, which comes once more, or is moved, by one row.
        rows = ["folder /a alone"] + one_file_rows([f"/a/{name}" for name in MANY_NAMES[:100]])
        layers = [lay(*rows), lay("folder /b alone")]
        self.misfits(layers, lay("gone /a", "folder /b over /a"), None)
        self.misfits(layers, lay("folder /c over /a"), ("many",))

    def test_eight_names_fit_and_nine_do_not(self):
        layers = [lay(*chain_rows("a", 7))]
        self.misfits(layers, lay("gone /a", "folder /b alone", "folder /b/a over /a"), None)
        self.misfits(layers, lay("gone /a", "folder /b alone", "folder /b/b alone", "folder /b/b/a over /a"), ("deep",))

    def test_a_file_of_nine_names_does_not_fit(self):
        layers = [lay("folder /a alone", "file /a/f 0", "data =t")]
        self.misfits(layers, lay("gone /a", *chain_rows("b", 7), "folder /b/b/b/b/b/b/b/b over /a"), ("deep",))
        self.misfits(layers, lay("gone /a", *chain_rows("b", 6), "folder /b/b/b/b/b/b/b over /a"), None)

    def test_a_mark_of_nine_names_is_no_path_that_is_shown(self):
        deep = chain("b", 8)
        layers = [lay("folder /a alone", "file /a/f 0", "data =t")]
        layer = lay("gone /a", *chain_rows("b", 7), f"folder {deep[7]} over /a", f"gone {deep[7]}/f")
        self.misfits(layers, layer, None)
        self.assertEqual(walk_texts(shown(layers + [layer])), deep)

    def test_a_folder_beneath_two_folders(self):
        self.misfits([BASE], lay("folder /n over /e"), ("twice", p("/n")))
        self.misfits([BASE], lay("folder /b over /e"), ("twice", p("/e")))
        self.misfits([BASE], lay("folder /m over /e", "folder /n over /e"), ("twice", p("/m")))
        self.misfits([BASE], lay("gone /e", "folder /m over /e", "folder /n over /e"), ("twice", p("/n")))
        self.misfits([BASE], lay("gone /e", "folder /m over /e"), None)

    def test_a_folder_beneath_two_folders_that_have_no_rows(self):
        # /n brings /a's folder b along, which /d lies over already.
        layer = lay("gone /a", "folder /d over /a/b", "folder /n over /a")
        self.misfits([BASE], layer, ("twice", p("/n/b")))
        self.misfits([BASE], lay("gone /a", "folder /m over /a", "folder /n over /a/b"), ("twice", p("/n")))

    def test_the_root_lies_over_the_root(self):
        self.misfits([BASE], lay("folder /n over /"), ("twice", p("/n")))
        self.misfits([], lay("folder /n over /"), ("twice", p("/n")))
        self.misfits([BASE], lay("gone /a", "gone /c", "gone /e", "gone /f", "folder /n over /", "gone /x"),
                     ("twice", p("/n")))

    def test_folders_with_none_beneath_are_not_alike(self):
        self.misfits([BASE], lay("folder /m alone", "folder /n alone"), None)

    def test_a_file_may_come_by_two_folders(self):
        layer = lay("file /m 0", "file /n 0", "data of /f")
        self.misfits([BASE], layer, None)

    def test_which_comes_first(self):
        # From one that has all five, what comes first is taken away one by one.
        entry, many, twice = "folder /z over /q", "folder /y over /a", "folder /x over /a/a"
        layers = [lay(*chain_rows("a", 8), *one_file_rows([f"/{name}" for name in MANY_NAMES[:150]]))]
        fill = [f"file /z{name} 0" for name in MANY_NAMES[:50]]
        pairs = ["data =t", "data of /q"]
        self.misfits(layers, lay("folder /b alone", "folder /b/b over /", twice, many, entry, *fill, *pairs),
                     ("entry", p("/z")))
        self.misfits(layers, lay("folder /b alone", "folder /b/b over /", twice, many, *fill, *pairs), ("file", 1))
        self.misfits(layers, lay("folder /b alone", "folder /b/b over /", twice, many, *fill, "data =t"), ("many",))
        self.misfits(layers, lay("gone /aa", "folder /b alone", "folder /b/b over /a"), ("deep",))
        self.misfits(layers, lay("folder /b over /a"), ("twice", p("/b")))

    def test_a_pair_that_does_not_fit_comes_behind_a_row_further_back(self):
        layer = lay("file /m 0", "folder /n over /q", "data of /q")
        self.misfits([BASE], layer, ("entry", p("/n")))

    def test_deep_comes_ahead_of_twice(self):
        layers = [lay(*chain_rows("a", 8))]
        self.misfits(layers, lay("folder /b over /"), ("deep",))
        self.misfits(layers, lay("folder /b over /a"), ("twice", p("/b")))

    def test_layers_that_do_not_fit_are_told_ahead(self):
        bad = lay("folder /a over /q")
        self.no_fit([bad], 0)
        self.no_fit([BASE, bad, EMPTY], 1)
        self.no_fit([EMPTY, BASE, lay("data of /x"), bad], 2)
        self.no_fit([BASE] * 5 + [bad], 5)
        with self.assertRaises(NoFit) as caught:
            misfit([BASE, bad], bad)
        self.assertEqual(caught.exception.number, 1)

    def test_nothing_that_is_handed_in_is_changed(self):
        layers, layer = [BASE, EMPTY], lay("folder /n over /e")
        misfit(layers, layer)
        self.assertEqual((layers, layer), ([BASE, EMPTY], lay("folder /n over /e")))


class ByChance(ViewTest):
    def test_layers_held_against_the_model(self):
        met = {}
        for seed in range(100):
            dice = Dice(seed)
            layers = some_layers(dice, dice.below(6))
            stack = Stack(layers)
            self.assertEqual(traced(layers), stack.traced(), row_text(layers))
            self.assertEqual(shown(layers).walked(), stack.walked(), row_text(layers))
            for turn in range(6):
                layer = LayerMaker(dice, layers, True).made()
                told = misfit(layers, layer)
                self.assertEqual(told, Stack(layers + [layer]).misfit(), row_text(layers + [layer]))
                met[told and told[0]] = met.get(told and told[0], 0) + 1
        for kind in (None, "entry", "file", "twice"):
            self.assertGreater(met[kind], 15)


if __name__ == "__main__":
    unittest.main()
