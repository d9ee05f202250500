"""What a top tells, how much room that takes, and what is refused for want of it."""

import unittest

from overfold.doing import done
from overfold.errors import NoFit, NoRoom
from overfold.tops import Top, top_of
from overfold.views import shown, traced
from layer_dice import LayerMaker, some_layers
from layer_help import BASE, EMPTY, Stack, lay
from shelf_help import ShelfTest, p, state_of
from shelf_model import Dice, a_deed
from top_model import TopModel, size_of

PLENTY = 10 ** 6


class RoomTest(ShelfTest):
    def tells(self, top, used, *rows):
        """The top tells these rows, and uses so much room."""
        self.assertEqual(top.told_layer(), lay(*rows))
        self.assertEqual(top.used_room(), used)
        self.assertEqual(top.free_room(), PLENTY - used)

    def at_bound(self, layers, ahead, deed, used):
        """The deed is done where it takes just the room, and refused, without any change, where one is wanting."""
        top = self.readied(layers, ahead, used)
        self.assertEqual(done(top, deed)[0], "done", deed)
        self.assertEqual((top.used_room(), top.free_room()), (used, 0), deed)
        short = self.readied(layers, ahead, used - 1)
        told, state, left = short.told_layer(), state_of(short), short.free_room()
        self.assertEqual(done(short, deed), ("refused", "NoRoom"), deed)
        self.assertEqual((short.told_layer(), state_of(short), short.free_room()), (told, state, left), deed)
        return short

    def readied(self, layers, ahead, room):
        top = Top(layers, room)
        for deed in ahead:
            self.assertEqual(done(top, deed)[0], "done", deed)
        return top


class Told(RoomTest):
    def setUp(self):
        self.top = Top([BASE], PLENTY)

    def test_make_folder_and_make_file(self):
        self.top.make_folder(p("/n"))
        self.tells(self.top, 1, "folder /n alone")
        self.top.make_file(p("/n/f"), "four")
        self.tells(self.top, 7, "folder /n alone", "file /n/f 0", "data =four")
        self.top.make_file(p("/n/g"), "")
        self.tells(self.top, 9, "folder /n alone", "file /n/f 0", "file /n/g 1", "data =four", "data =")

    def test_write_and_write_back(self):
        self.top.write(p("/f"), "other")
        self.tells(self.top, 6, "data of /f =other")
        self.top.write(p("/x"), "")
        self.tells(self.top, 1, "data of /f =")
        self.top.write(p("/x"), "top")
        self.tells(self.top, 0)

    def test_put_and_cut(self):
        self.top.put(p("/f"), 3, "s")
        self.tells(self.top, 5, "data of /f =tops")
        self.top.cut(p("/f"), 3)
        self.tells(self.top, 0)
        self.top.cut(p("/f"), 200)
        self.tells(self.top, 201, "data of /f =top" + " " * 197)

    def test_link(self):
        self.top.link(p("/f"), p("/n"))
        self.tells(self.top, 2, "file /n 0", "data of /f")
        self.top.link(p("/n"), p("/e/n"))
        self.tells(self.top, 4, "folder /e over /e", "file /e/n 0", "file /n 0", "data of /f")
        self.top.write(p("/n"), "ab")
        self.tells(self.top, 6, "folder /e over /e", "file /e/n 0", "file /n 0", "data of /f =ab")

    def test_drop_takes_a_mark(self):
        self.top.drop(p("/x"))
        self.tells(self.top, 1, "gone /x")
        self.top.drop(p("/a/b/f"))
        self.tells(self.top, 4, "folder /a over /a", "folder /a/b over /a/b", "gone /a/b/f", "gone /x")
        self.top.drop(p("/a/b"))
        self.tells(self.top, 3, "folder /a over /a", "gone /a/b", "gone /x")

    def test_drop_of_what_is_new_gives_room_back(self):
        self.top.make_folder(p("/n"))
        self.top.make_file(p("/n/f"), "four")
        self.top.drop(p("/n/f"))
        self.tells(self.top, 1, "folder /n alone")
        self.top.drop(p("/n"))
        self.tells(self.top, 0)

    def test_folders_moved_away_and_back(self):
        self.top.move(p("/a"), p("/n"))
        self.tells(self.top, 2, "gone /a", "folder /n over /a")
        self.top.move(p("/n/b"), p("/e/b"))
        self.tells(self.top, 5, "gone /a", "folder /e over /e", "folder /e/b over /a/b", "folder /n over /a",
                   "gone /n/b")
        self.top.move(p("/n"), p("/a"))
        self.tells(self.top, 4, "folder /a over /a", "gone /a/b", "folder /e over /e", "folder /e/b over /a/b")
        self.top.move(p("/e/b"), p("/a/b"))
        self.tells(self.top, 0)

    def test_files_moved_and_back(self):
        self.top.move(p("/a/g"), p("/n"))
        self.tells(self.top, 4, "folder /a over /a", "gone /a/g", "file /n 0", "data of /a/g")
        self.top.move(p("/c/g"), p("/a/g"))
        self.tells(self.top, 4, "folder /c over /c", "gone /c/g", "file /n 0", "data of /a/g")
        self.top.move(p("/n"), p("/c/g"))
        self.tells(self.top, 0)

    def test_swap(self):
        self.top.swap(p("/f"), p("/a/b/f"))
        self.tells(self.top, 6, "folder /a over /a", "folder /a/b over /a/b", "file /a/b/f 0", "file /f 1",
                   "data of /f", "data of /a/b/f")
        self.top.swap(p("/a/b/f"), p("/f"))
        self.tells(self.top, 0)

    def test_names_of_one_file_take_a_row_each_and_one_pair(self):
        self.top.make_file(p("/m"), "four")
        for count, name in enumerate("nop", start=2):
            self.top.link(p("/m"), (name,))
            self.assertEqual(self.top.used_room(), 5 + count)

    def test_asks_and_handles_take_nothing(self):
        self.top.hold(p("/f"))
        self.top.hold(p("/f"))
        self.top.read_by(1)
        self.tells(self.top, 0)
        self.top.close(1)
        self.tells(self.top, 0)

    def test_by_handles_as_by_names(self):
        self.top.hold(p("/x"))
        self.top.write_by(1, "ab")
        self.tells(self.top, 3, "data of /f =ab")
        self.top.put_by(1, 2, "c")
        self.tells(self.top, 4, "data of /f =abc")
        self.top.cut_by(1, 0)
        self.tells(self.top, 1, "data of /f =")
        self.top.name_by(1, p("/n"))
        self.tells(self.top, 2, "file /n 0", "data of /f =")


class WithoutNames(RoomTest):
    def setUp(self):
        self.top = Top([BASE], PLENTY)

    def test_a_new_file(self):
        self.top.make_file(p("/n"), "four")
        self.top.hold(p("/n"))
        self.tells(self.top, 6, "file /n 0", "data =four")
        self.top.drop(p("/n"))
        self.tells(self.top, 5)
        self.top.write_by(1, "")
        self.tells(self.top, 1)
        self.top.close(1)
        self.tells(self.top, 0)

    def test_several_handles_of_one_file_count_once(self):
        self.top.make_file(p("/n"), "four")
        for turn in range(3):
            self.top.hold(p("/n"))
        self.top.drop(p("/n"))
        self.tells(self.top, 5)
        self.top.close(1)
        self.top.close(3)
        self.tells(self.top, 5)
        self.top.close(2)
        self.tells(self.top, 0)

    def test_two_files(self):
        for name in "mn":
            self.top.make_file((name,), "same")
            self.top.hold((name,))
            self.top.drop((name,))
        self.tells(self.top, 10)

    def test_a_file_of_the_layers_with_its_own_text_takes_nothing(self):
        self.top.hold(p("/a/b/f"))
        self.top.drop(p("/a/b/f"))
        self.tells(self.top, 3, "folder /a over /a", "folder /a/b over /a/b", "gone /a/b/f")

    def test_a_file_of_the_layers_with_another_text(self):
        self.top.hold(p("/a/b/f"))
        self.top.write_by(1, "other")
        self.top.drop(p("/a/b/f"))
        self.top.drop(p("/a/b"))
        self.tells(self.top, 8, "folder /a over /a", "gone /a/b")
        self.top.write_by(1, "deep")
        self.tells(self.top, 2, "folder /a over /a", "gone /a/b")
        self.top.write_by(1, "")
        self.tells(self.top, 3, "folder /a over /a", "gone /a/b")
        self.top.close(1)
        self.tells(self.top, 2, "folder /a over /a", "gone /a/b")

    def test_a_file_that_has_a_name_left_counts_by_the_layer_alone(self):
        self.top.hold(p("/f"))
        self.top.write_by(1, "other")
        self.top.drop(p("/f"))
        self.tells(self.top, 7, "gone /f", "data of /f =other")
        self.top.drop(p("/x"))
        self.tells(self.top, 8, "gone /f", "gone /x")

    def test_a_name_again(self):
        self.top.make_file(p("/n"), "four")
        self.top.hold(p("/n"))
        self.top.drop(p("/n"))
        self.top.name_by(1, p("/m"))
        self.tells(self.top, 6, "file /m 0", "data =four")


class AtTheBound(RoomTest):
    def test_each_deed(self):
        held = [("hold", p("/x"))]
        for ahead, deed, used in (
                ([], ("make_folder", p("/n")), 1), ([], ("make_file", p("/n"), "four"), 6),
                ([], ("make_file", p("/e/n"), ""), 3), ([], ("write", p("/f"), "other"), 6),
                ([], ("write", p("/f"), ""), 1), ([], ("put", p("/f"), 3, "s"), 5), ([], ("cut", p("/f"), 2), 3),
                ([], ("link", p("/f"), p("/n")), 2), ([], ("drop", p("/x")), 1), ([], ("drop", p("/a/b/f")), 3),
                ([], ("drop", p("/e")), 1), ([], ("move", p("/a"), p("/n")), 2), ([], ("move", p("/c"), p("/e")), 2),
                ([], ("move", p("/f"), p("/a/g")), 4), ([], ("swap", p("/a"), p("/c")), 2),
                ([], ("swap", p("/f"), p("/a/g")), 5), (held, ("write_by", 1, "other"), 6),
                (held, ("put_by", 1, 0, "Tops"), 5), (held, ("cut_by", 1, 2), 3), (held, ("name_by", 1, p("/n")), 2)):
            self.at_bound([BASE], ahead, deed, used)

    def test_a_move_over_a_file_that_a_handle_is_of(self):
        ahead = [("make_file", p("/m"), "four"), ("hold", p("/m"))]
        # The row and the pair of /m go, but its text is kept for the handle, and what moved has a row and a pair.
        short = self.at_bound([BASE], ahead, ("move", p("/x"), p("/m")), 8)
        self.assertEqual((short.read_by(1), short.count_by(1)), ("four", 1))

    def test_a_drop_that_needs_a_mark_in_a_full_top(self):
        top = Top([BASE], 0)
        self.refused(NoRoom, top.drop, p("/e"))
        self.refused(NoRoom, top.drop, p("/x"))

    def test_a_drop_of_what_is_new_is_done_in_a_full_top(self):
        top = self.readied([BASE], [("make_folder", p("/n"))], 1)
        self.refused(NoRoom, top.make_folder, p("/m"))
        top.drop(p("/n"))
        self.assertEqual(top.free_room(), 1)

    def test_what_takes_nothing_is_done_without_room(self):
        top = Top([BASE], 0)
        for deed in (("write", p("/f"), "top"), ("cut", p("/f"), 3), ("put", p("/f"), 1, "op"), ("put", p("/x"), 0, ""),
                     ("move", p("/a"), p("/a")), ("move", p("/f"), p("/x")), ("swap", p("/a"), p("/a")),
                     ("swap", p("/x"), p("/f")), ("hold", p("/f")), ("write_by", 1, "top"), ("read_by", 1),
                     ("put_by", 1, 0, "t"), ("cut_by", 1, 3), ("count_by", 1), ("close", 1)):
            self.assertEqual(done(top, deed)[0], "done", deed)
        self.assertEqual((top.told_layer(), top.used_room()), (EMPTY, 0))

    def test_a_text_made_shorter_is_done_in_a_full_top(self):
        top = self.readied([BASE], [("write", p("/f"), "longer")], 7)
        self.refused(NoRoom, top.put, p("/f"), 6, "s")
        top.write(p("/f"), "long")
        self.assertEqual(top.free_room(), 2)

    def test_a_swap_back_in_a_full_top(self):
        top = self.readied([BASE], [("swap", p("/a"), p("/c"))], 2)
        self.refused(NoRoom, top.drop, p("/e"))
        top.swap(p("/a"), p("/c"))
        self.assertEqual(top.used_room(), 0)

    def test_a_file_kept_by_a_handle_alone_holds_its_room(self):
        ahead = [("make_file", p("/n"), "four"), ("hold", p("/n")), ("drop", p("/n"))]
        top = self.readied([BASE], ahead, 6)
        self.refused(NoRoom, top.make_folder, p("/e/n"))
        self.refused(NoRoom, top.write_by, 1, "longer")
        top.close(1)
        top.make_folder(p("/e/n"))
        self.assertEqual(top.used_room(), 2)

    def test_a_drop_of_the_last_name_while_a_handle_is_open(self):
        top = self.readied([BASE], [("write", p("/a/b/f"), "other"), ("hold", p("/a/b/f"))], 8)
        self.refused(NoRoom, top.drop, p("/a/b/f"))
        self.assertEqual((top.count_by(1), top.read_by(1)), (1, "other"))

    def test_behind_a_refusal_all_goes_on_as_ever(self):
        top = Top([BASE], 5)
        self.refused(NoRoom, top.write, p("/f"), "longer")
        self.refused(NoRoom, top.swap, p("/a/b/f"), p("/a/g"))
        self.assertEqual(top.hold(p("/a/b/f")), 1)
        self.refused(NoRoom, top.write_by, 1, "longer")
        top.move(p("/a"), p("/e"))
        top.move(p("/e"), p("/a"))
        top.make_folder(p("/e"))
        self.assertEqual(top.told_layer(), lay("folder /e alone"))
        self.assertEqual(top.read_by(1), "deep")


class BehindAllOthers(RoomTest):
    def test_each_refusal_comes_ahead_of_no_room(self):
        for name, deed in (
                ("NoThing", ("make_folder", p("/q/q"))), ("WrongKind", ("make_folder", p("/f/q"))),
                ("Taken", ("make_folder", p("/a"))), ("Taken", ("make_file", p("/f"), "longer")),
                ("NoThing", ("write", p("/q"), "longer")), ("WrongKind", ("write", p("/a"), "longer")),
                ("TooLong", ("put", p("/f"), 198, "abc")), ("NoThing", ("cut", p("/q"), 9)),
                ("NoThing", ("link", p("/q"), p("/n"))), ("Taken", ("link", p("/f"), p("/a"))),
                ("Within", ("drop", ())), ("NoThing", ("drop", p("/q"))), ("NotEmpty", ("drop", p("/a"))),
                ("Within", ("move", p("/a"), p("/a/n"))), ("NotEmpty", ("move", p("/e"), p("/a"))),
                ("WrongKind", ("move", p("/f"), p("/e"))), ("NoThing", ("move", p("/f"), p("/q/q"))),
                ("NoThing", ("swap", p("/f"), p("/q"))), ("Within", ("swap", p("/a"), p("/a/b"))),
                ("NoThing", ("hold", p("/q"))), ("WrongKind", ("hold", p("/a"))), ("NoHandle", ("read_by", 2)),
                ("NoHandle", ("write_by", 2, "longer")), ("TooLong", ("put_by", 1, 198, "abc")),
                ("NoHandle", ("put_by", 2, 198, "abc")), ("NoHandle", ("cut_by", 2, 9)), ("NoHandle", ("count_by", 2)),
                ("NoHandle", ("name_by", 2, p("/n"))), ("Taken", ("name_by", 1, p("/a"))),
                ("NoThing", ("name_by", 1, p("/q/q"))), ("NoHandle", ("close", 2))):
            top = Top([BASE], 0)
            top.hold(p("/f"))
            self.assertEqual(done(top, deed), ("refused", name), deed)
            self.assertEqual(top.handles(), [1])
            self.assertEqual(top.walked(), shown([BASE]).walked())

    def test_too_deep(self):
        rows = ["folder " + "/a" * count + " alone" for count in range(1, 9)] + ["folder /b alone", "folder /b/b alone"]
        top = Top([lay(*rows)], 0)
        self.assertEqual(done(top, ("move", p("/b"), p("/a/a/a/a/a/a/a/b"))), ("refused", "TooDeep"))
        self.assertEqual(done(top, ("move", p("/b"), p("/a/a/a/a/a/a/b"))), ("refused", "NoRoom"))
        self.assertEqual(done(top, ("swap", p("/b"), p("/a/a"))), ("refused", "NoRoom"))
        self.assertEqual(done(top, ("swap", p("/a/a/a"), p("/b/b"))), ("refused", "NoRoom"))
        self.assertEqual(done(top, ("swap", p("/b"), p("/a/a/a/a/a/a/a/a"))), ("refused", "TooDeep"))


class TopOf(RoomTest):
    LAYER = lay("gone /a", "file /b 0", "folder /n over /a", "gone /n/g", "data of /f =new")

    def test_as_the_layer_says(self):
        top = top_of([BASE], self.LAYER, PLENTY)
        self.assertIsInstance(top, Top)
        self.assertEqual(top.walked(), shown([BASE, self.LAYER]).walked())
        self.tells(top, 8, *["gone /a", "file /b 0", "folder /n over /a", "gone /n/g", "data of /f =new"])
        self.assertEqual(top.handles(), [])

    def test_deeds_go_on_from_there(self):
        top = top_of([BASE], self.LAYER, PLENTY)
        self.assertEqual(top.hold(p("/x")), 1)
        top.write_by(1, "top")
        top.drop(p("/b"))
        top.move(p("/n"), p("/a"))
        self.tells(top, 2, "folder /a over /a", "gone /a/g")
        top.name_by(1, p("/a/g"))
        self.tells(top, 3, "folder /a over /a", "file /a/g 0", "data of /f")

    def test_a_layer_that_is_not_the_least(self):
        layer = lay("folder /a over /a", "file /a/g 0", "gone /q", "data of /a/g =one", "data of /f =new")
        top = top_of([BASE], layer, 4)
        self.tells(top_of([BASE], layer, PLENTY), 4, "data of /f =new")
        self.assertEqual(top.free_room(), 0)

    def test_just_room_enough_and_one_less(self):
        self.assertEqual(top_of([BASE], self.LAYER, 8).free_room(), 0)
        with self.assertRaises(NoRoom) as caught:
            top_of([BASE], self.LAYER, 7)
        self.assertIs(type(caught.exception), NoRoom)
        self.assertEqual(top_of([BASE], EMPTY, 0).free_room(), 0)

    def test_deeds_keep_to_the_room(self):
        top = top_of([BASE], self.LAYER, 8)
        self.refused(NoRoom, top.drop, p("/e"))
        self.refused(NoRoom, top.write, p("/b"), "four")
        top.write(p("/b"), "old")

    def test_no_fit_comes_ahead_of_no_room(self):
        bad = lay("folder /n over /q")
        for layers, layer, number in (([BASE], bad, 1), ([bad, BASE], self.LAYER, 0), ([], self.LAYER, 0),
                                      ([BASE, bad], bad, 1), ([BASE, EMPTY], lay("data of /x =t"), 2)):
            with self.assertRaises(NoFit) as caught:
                top_of(layers, layer, 0)
            self.assertIs(type(caught.exception), NoFit)
            self.assertEqual(caught.exception.number, number)

    def test_over_six_layers(self):
        layers = [BASE] + [EMPTY] * 5
        self.assertEqual(top_of(layers, self.LAYER, 8).told_layer(), self.LAYER)
        self.assertEqual(layers, [BASE] + [EMPTY] * 5)

    def test_layers_that_come_by_chance(self):
        met = 0
        for seed in range(60):
            dice = Dice(seed)
            layers = some_layers(dice, 1 + dice.below(4))
            layer = LayerMaker(dice, layers, False).made()
            stack = Stack(layers + [layer])
            if stack.misfit() is None:
                met += 1
                top = top_of(layers, layer, PLENTY)
                self.assertEqual(top.walked(), stack.walked())
                self.assertEqual(top.told_layer(), stack.least())
                self.assertEqual(traced(layers + [top.told_layer()]), stack.traced())
                self.assertEqual(top.used_room(), size_of(stack.least()))
        self.assertGreater(met, 40)


class RoomByChance(RoomTest):
    """Deeds in little room, beside a top of plenty on which those that were done are done too."""

    def check(self, seed, told):
        dice = Dice(seed)
        layers = some_layers(dice, 1 + dice.below(3))
        room = 3 + dice.below(25)
        top, wide, model, deeds = Top(layers, room), Top(layers, PLENTY), TopModel(layers), []
        for turn in range(60):
            deed = a_deed(dice, model)
            before = (state_of(top), top.told_layer())
            wanted = done(wide, deed)
            if wide.used_room() > room:
                wide = self.readied(layers, deeds, PLENTY)
                wanted = ("refused", "NoRoom")
            self.assertEqual(done(top, deed), wanted, deed)
            if wanted[0] == "done":
                deeds.append(deed)
                model.done(deed)
            else:
                self.assertEqual((state_of(top), top.told_layer()), before, deed)
            self.assertEqual((state_of(top), top.told_layer()), (state_of(wide), wide.told_layer()), deed)
            self.assertEqual(top.free_room(), room - wide.used_room())
            told[(deed[0], wanted[1] if wanted[0] == "refused" else "done")] = True

    def test_rows_of_deeds(self):
        told = {}
        for seed in range(120):
            self.check(seed, told)
        for word in ("make_folder", "make_file", "write", "put", "cut", "link", "drop", "move", "swap", "write_by",
                     "put_by", "name_by"):
            self.assertIn((word, "NoRoom"), told)
            self.assertIn((word, "done"), told)


if __name__ == "__main__":
    unittest.main()
