"""A top beside the shelf that its layers show: it does, tells and refuses the same."""

import inspect
import unittest

from overfold.doing import copied, done
from overfold.errors import NoFit
from overfold.shelf import Shelf
from overfold.tops import Top, top_of
from overfold.views import shown
from layer_dice import row_text, some_layers
from layer_help import BASE, EMPTY, Stack, lay, trace_texts
from shelf_help import ShelfTest, p, sample, state_of, walk_texts
from shelf_model import WORDS, Dice, a_deed
from top_model import TopModel, size_of

PLENTY = 10 ** 6
METHODS = {
    "make_folder": ["path"], "make_file": ["path", "text"], "write": ["path", "text"],
    "put": ["path", "place", "text"], "cut": ["path", "size"], "link": ["path", "other"], "drop": ["path"],
    "move": ["path", "other"], "swap": ["path", "other"], "hold": ["path"], "read_by": ["handle"],
    "write_by": ["handle", "text"], "put_by": ["handle", "place", "text"], "cut_by": ["handle", "size"],
    "count_by": ["handle"], "name_by": ["handle", "other"], "close": ["handle"], "handles": [], "kind_of": ["path"],
    "text_of": ["path"], "names_in": ["path"], "count_of": ["path"], "same_file": ["path", "other"], "walked": [],
    "told_layer": [], "used_room": [], "free_room": []}
# Over the sample: /a is at /n, its file g is gone there; /f has another text, and one name more.
OVER = lay("gone /a", "file /b 0", "folder /n over /a", "gone /n/g", "data of /f =new")


class Interface(unittest.TestCase):
    def test_arguments(self):
        self.assertEqual(list(inspect.signature(Top).parameters), ["layers", "room"])
        self.assertEqual(list(inspect.signature(top_of).parameters), ["layers", "layer", "room"])
        for name, arguments in METHODS.items():
            self.assertEqual(list(inspect.signature(getattr(Top, name)).parameters), ["self"] + arguments, name)


class AtFirst(ShelfTest):
    def test_the_things_are_those_that_the_layers_show(self):
        for layers in ([], [EMPTY], [BASE], [BASE, OVER], [BASE, OVER, EMPTY, lay("gone /n")]):
            top = Top(layers, 0)
            self.assertEqual(top.walked(), shown(layers).walked())
            self.assertEqual(top.told_layer(), EMPTY)
            self.assertEqual((top.used_room(), top.free_room(), top.handles()), (0, 0, []))

    def test_layers_that_do_not_fit(self):
        for layers, number in (([OVER], 0), ([BASE, OVER, OVER], 2), ([BASE, lay("folder /n over /"), OVER], 1)):
            with self.assertRaises(NoFit) as caught:
                Top(layers, PLENTY)
            self.assertIs(type(caught.exception), NoFit)
            self.assertEqual(caught.exception.number, number)

    def test_what_is_told_is_the_askers_own(self):
        top = Top([BASE], PLENTY)
        top.hold(p("/f"))
        for ask in (top.walked, top.handles, lambda: top.names_in(())):
            told = ask()
            kept = list(told)
            told.clear()
            self.assertEqual(ask(), kept)
            self.assertIsNot(ask(), ask())

    def test_the_list_of_layers_may_change_behind(self):
        layers = [BASE, OVER]
        top = Top(layers, PLENTY)
        layers.clear()
        top.drop(p("/e"))
        self.assertEqual(top.told_layer(), lay("gone /e"))
        self.assertEqual(top.walked(), [row for row in shown([BASE, OVER]).walked() if row[0] != p("/e")])


class NotMeddling(ShelfTest):
    def test_two_tops_over_one_list_and_the_layers(self):
        layers = [BASE, OVER]
        shown_before = shown(layers).walked()
        one, other = Top(layers, PLENTY), Top(layers, PLENTY)
        one.write(p("/f"), "one")
        one.hold(p("/c/g"))
        other.move(p("/n"), p("/e"))
        other.drop(p("/c/g"))
        self.assertEqual(one.told_layer(), lay("data of /b =one"))
        self.assertEqual(other.told_layer(), lay("folder /c over /c", "gone /c/g", "folder /e over /n", "gone /n"))
        self.assertEqual((one.handles(), other.handles()), ([1], []))
        self.assertEqual(layers, [BASE, OVER])
        self.assertEqual(shown(layers).walked(), shown_before)
        self.assertEqual(Top(layers, 0).walked(), shown_before)

    def test_a_top_and_a_shown_shelf(self):
        layers = [BASE]
        shelf, top = shown(layers), Top(layers, PLENTY)
        shelf.write(p("/f"), "new")
        top.drop(p("/x"))
        self.assertEqual(top.text_of(p("/f")), "top")
        self.assertEqual(shelf.count_of(p("/f")), 2)

    def test_a_layer_told_before_stays(self):
        top = Top([BASE], PLENTY)
        top.drop(p("/e"))
        told = top.told_layer()
        top.drop(p("/x"))
        self.assertEqual(told, lay("gone /e"))
        self.assertEqual(top.told_layer(), lay("gone /e", "gone /x"))


class Keeping(ShelfTest):
    """Folders keep their folder beneath, and files their origin."""

    def tells(self, top, *rows):
        self.assertEqual(top.told_layer(), lay(*rows))

    def test_what_is_newly_made_has_none(self):
        top = Top([BASE], PLENTY)
        top.drop(p("/e"))
        top.make_folder(p("/e"))
        top.drop(p("/x"))
        top.make_file(p("/x"), "top")
        self.tells(top, "folder /e alone", "file /x 0", "data =top")

    def test_a_folder_that_is_moved_and_one_in_its_place(self):
        top = Top([BASE], PLENTY)
        top.move(p("/a"), p("/n"))
        top.make_folder(p("/a"))
        self.tells(top, "folder /a alone", "folder /n over /a")
        top.make_file(p("/n/b/m"), "t")
        self.tells(top, "folder /a alone", "folder /n over /a", "folder /n/b over /a/b", "file /n/b/m 0", "data =t")

    def test_a_folder_in_the_place_of_another_one(self):
        top = Top([BASE], PLENTY)
        top.move(p("/c"), p("/e"))
        self.tells(top, "gone /c", "folder /e over /c")

    def test_folders_swapped_and_swapped_back(self):
        top = Top([BASE], PLENTY)
        top.swap(p("/a"), p("/c"))
        self.tells(top, "folder /a over /c", "folder /c over /a")
        top.swap(p("/c"), p("/a"))
        self.tells(top)

    def test_empty_folders_swapped(self):
        layers = [lay("folder /a alone", "folder /b alone")]
        top = Top(layers, PLENTY)
        top.swap(p("/a"), p("/b"))
        self.tells(top, "folder /a over /b", "folder /b over /a")

    def test_a_folder_swapped_with_a_file(self):
        top = Top([BASE], PLENTY)
        top.swap(p("/a/b"), p("/f"))
        self.tells(top, "folder /a over /a", "file /a/b 0", "folder /f over /a/b", "data of /f")

    def test_a_folder_moved_into_a_new_one_beneath_itself_by_steps(self):
        top = Top([BASE], PLENTY)
        top.move(p("/a"), p("/n"))
        top.make_folder(p("/a"))
        top.move(p("/n"), p("/a/n"))
        self.tells(top, "folder /a alone", "folder /a/n over /a")

    def test_a_file_keeps_its_origin_whatever_its_names(self):
        top = Top([BASE], PLENTY)
        top.link(p("/f"), p("/b"))
        self.tells(top, "file /b 0", "data of /f")
        top.drop(p("/f"))
        top.drop(p("/x"))
        self.tells(top, "file /b 0", "gone /f", "gone /x", "data of /f")
        top.move(p("/b"), p("/x"))
        self.tells(top, "gone /f")

    def test_a_file_by_a_handle_alone_keeps_its_origin(self):
        top = Top([BASE], PLENTY)
        handle = top.hold(p("/a/b/f"))
        top.drop(p("/a/b/f"))
        top.drop(p("/a/b"))
        self.tells(top, "folder /a over /a", "gone /a/b")
        top.name_by(handle, p("/a/n"))
        self.tells(top, "folder /a over /a", "gone /a/b", "file /a/n 0", "data of /a/b/f")
        top.make_folder(p("/a/b"))
        top.move(p("/a/n"), p("/a/b/f"))
        self.tells(top, "folder /a over /a", "folder /a/b alone", "file /a/b/f 0", "data of /a/b/f")

    def test_a_new_file_in_the_place_of_one_that_a_handle_is_of(self):
        top = Top([BASE], PLENTY)
        handle = top.hold(p("/a/b/f"))
        top.make_file(p("/n"), "t")
        top.move(p("/n"), p("/a/b/f"))
        self.assertEqual((top.read_by(handle), top.count_by(handle)), ("deep", 0))
        self.tells(top, "folder /a over /a", "folder /a/b over /a/b", "file /a/b/f 0", "data =t")

    def test_paths_are_those_of_all_layers_beneath(self):
        top = Top([BASE, OVER], PLENTY)
        top.link(p("/x"), p("/z"))
        top.write(p("/n/b/f"), "t")
        top.move(p("/n"), p("/m"))
        self.tells(top, "folder /m over /n", "gone /n", "file /z 0", "data of /b", "data of /n/b/f =t")


class BesideAShelf(ShelfTest):
    def pair(self, layers):
        return Top(layers, PLENTY), shown(layers)

    def both(self, top, shelf, *deeds):
        for deed in deeds:
            self.assertEqual(done(top, deed), done(shelf, deed), deed)
            self.assertEqual(state_of(top), state_of(shelf), deed)

    def test_handles_behind_drops_moves_and_swaps(self):
        top, shelf = self.pair([BASE, OVER])
        self.both(top, shelf, ("hold", p("/n/b/f")), ("hold", p("/x")), ("hold", p("/c/g")), ("drop", p("/c/g")),
                  ("swap", p("/n/b/f"), p("/e")), ("write_by", 1, "moved"), ("move", p("/n"), p("/e/n")),
                  ("move", p("/n"), p("/m")), ("put_by", 3, 6, "!"), ("read_by", 3), ("count_by", 3),
                  ("name_by", 3, p("/m/g")), ("read_by", 1), ("cut_by", 2, 1), ("close", 2), ("read_by", 2),
                  ("hold", p("/q")), ("hold", p("/m")), ("hold", p("/b")), ("close", 4), ("hold", p("/b")))
        self.assertEqual(top.handles(), [1, 3, 5])

    def test_asks(self):
        top, shelf = self.pair([BASE, OVER])
        paths = [p(path) for path in "/ /a /b /f /x /n /n/b /n/b/f /n/g /c/g /f/q /q".split(" ")]
        for path in paths:
            self.assertEqual(top.kind_of(path), shelf.kind_of(path))
            for name in ("text_of", "names_in", "count_of"):
                self.assertEqual(self.asked(top, name, path), self.asked(shelf, name, path), (name, path))
            for other in paths:
                self.assertEqual(top.same_file(path, other), shelf.same_file(path, other))

    def asked(self, shelf, name, path):
        try:
            return getattr(shelf, name)(path)
        except ValueError as error:
            return type(error)

    def test_refusals_of_each_word(self):
        for deed in (("make_folder", p("/q/q")), ("make_file", p("/b/q"), "t"), ("make_file", p("/e"), "t"),
                     ("write", p("/n"), "t"), ("put", p("/f"), 199, "ab"), ("cut", p("/q"), 1),
                     ("link", p("/f"), p("/x")), ("drop", p("/n")), ("drop", ()), ("move", p("/n"), p("/n/b/q")),
                     ("move", p("/e"), p("/n")), ("move", p("/e"), p("/f")), ("swap", p("/n"), p("/n/b")),
                     ("hold", p("/n")), ("read_by", 1), ("write_by", 1, "t"), ("put_by", 1, 0, "t"), ("cut_by", 1, 1),
                     ("count_by", 1), ("name_by", 1, p("/q")), ("close", 1)):
            top, shelf = self.pair([BASE, OVER])
            told = done(top, deed)
            self.assertEqual(told[0], "refused", deed)
            self.both(top, shelf, deed)
            self.assertEqual(top.told_layer(), EMPTY)

    def test_too_deep(self):
        rows = ["folder /a alone"] + ["folder " + "/a" * count + " alone" for count in range(2, 8)]
        top, shelf = self.pair([lay(*rows), lay("folder /b alone", "folder /b/b alone", "folder /b/b/b alone")])
        for deed in (("move", p("/b"), p("/a/a/a/a/a/a/b")), ("swap", p("/b"), p("/a/a/a/a/a/a/a")),
                     ("move", p("/b"), p("/a/a/a/a/a/b"))):
            self.both(top, shelf, deed)
        self.assertEqual(done(top, ("move", p("/a"), p("/q"))), ("done", None))
        self.assertEqual(done(Top([lay(*rows)], 0), ("swap", p("/a"), p("/a/a"))), ("refused", "Within"))

    def check(self, seed, told):
        dice = Dice(seed)
        layers = some_layers(dice, 1 + dice.below(5))
        before = repr(layers)
        top, shelf, model = Top(layers, PLENTY), shown(layers), TopModel(layers)
        for turn in range(70):
            deed = a_deed(dice, model)
            answer = done(top, deed)
            self.assertEqual(answer, done(shelf, deed), deed)
            self.assertEqual(answer, model.done(deed), deed)
            self.assertEqual(state_of(top), state_of(shelf), deed)
            told[(deed[0], answer[0] if answer[0] == "done" else answer[1])] = True
            self.check_layer(layers, top, model)
        self.assertEqual(copied(top).walked(), top.walked())
        self.assertEqual(repr(layers), before)

    def check_layer(self, layers, top, model):
        layer = top.told_layer()
        self.assertEqual(top.used_room(), size_of(layer) + model.room_without_names())
        self.assertEqual(top.free_room(), PLENTY - top.used_room())
        stack = Stack(layers + [layer])
        words = row_text(layers + [layer])
        self.assertEqual(stack.traced(), model.traced(), words)
        self.assertEqual(stack.least(), layer, words)
        if model.is_within_bounds():
            self.assertIsNone(stack.misfit(), words)

    def test_long_rows_of_deeds(self):
        told = {}
        for seed in range(40):
            self.check(seed, told)
        for word in WORDS:
            self.assertIn((word, "done"), told)
        self.assertGreater(len(told), 45)


class TopsDone(ShelfTest):
    def test_done_on_a_top(self):
        top = Top([BASE], 20)
        self.assertEqual(done(top, ("hold", p("/x"))), ("done", 1))
        self.assertEqual(done(top, ("put_by", 1, 3, "!")), ("done", None))
        self.assertEqual(done(top, ("read_by", 1)), ("done", "top!"))
        self.assertEqual(done(top, ("count_by", 1)), ("done", 2))
        self.assertEqual(done(top, ("drop", p("/a"))), ("refused", "NotEmpty"))
        self.assertEqual(done(top, ("write", p("/f"), "t" * 20)), ("refused", "NoRoom"))

    def test_copied_of_a_top(self):
        top = Top([BASE, OVER], PLENTY)
        top.hold(p("/n/b/f"))
        top.drop(p("/n/b/f"))
        top.link(p("/x"), p("/a"))
        twin = copied(top)
        self.assertIs(type(twin), Shelf)
        self.assertEqual(twin.walked(), top.walked())
        self.assertEqual((twin.handles(), top.handles()), ([], [1]))
        twin.write(p("/a"), "twin")
        self.assertEqual(top.text_of(p("/a")), "new")
        top.drop(p("/e"))
        self.assertEqual(twin.kind_of(p("/e")), "folder")

    def test_copied_of_a_top_without_room(self):
        top = Top([BASE], 0)
        twin = copied(top)
        twin.make_folder(p("/q"))
        self.assertEqual(walk_texts(copied(top)), walk_texts(sample()))


class Stands(unittest.TestCase):
    def test_the_model_traces_what_the_layers_show(self):
        for layers in ([], [BASE], [BASE, OVER]):
            told = TopModel(layers).traced()
            self.assertEqual(told, Stack(layers + [EMPTY]).traced())
        self.assertEqual(trace_texts(told)[0], "/b of /b =new")


if __name__ == "__main__":
    unittest.main()
