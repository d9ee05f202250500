"""Stories and their answers: points 23 and 24."""

import inspect
import unittest

from overfold.stories import run
from layer_dice import layers_of_both
from layer_help import BASE, lay
from shelf_model import Dice, WORDS, a_deed, a_path
from story_help import BASE_ROWS, StoryModel, StoryTest, layer_rows, least_of, pressed_model, step_row, story

ROOM = ["room 1000000"]
PLAIN = BASE_ROWS + ROOM


class Interface(unittest.TestCase):
    def test_arguments(self):
        self.assertEqual(list(inspect.signature(run).parameters), ["text"])

    def test_a_list_of_texts(self):
        answers = run(story("room 9", "make_file /f =t", "hold /f", "count_by 1", "used", "walk", "held /f"))
        self.assertIs(type(answers), list)
        self.assertEqual([type(answer) for answer in answers], [str] * 6)


class Deeds(StoryTest):
    def test_each_done(self):
        self.tells(PLAIN, ("make_folder /n", "done"), ("make_file /n/f =new", "done"), ("write /x =ab", "done"),
                   ("put /n/f 3 =er", "done"), ("cut /f 1", "done"), ("link /n/f /b", "done"), ("drop /b", "done"),
                   ("move /c /e", "done"), ("swap /n /f", "done"), ("hold /x", "done 1"), ("hold /f/f", "done 2"),
                   ("read_by 2", "=newer"), ("write_by 2 =held", "done"), ("put_by 2 0 =H", "done"),
                   ("cut_by 2 3", "done"), ("count_by 2", "1"), ("name_by 2 /b", "done"), ("count_by 2", "2"),
                   ("close 2", "done"), ("text /b", "=Hel"), ("text /x", "=a"),
                   ("walk", "/a /a/b /a/b/f=/a/b/f /a/g=/a/g /b=/b /e /e/g=/a/g /f /f/f=/b /n=/n /x=/n"))

    def test_each_refused(self):
        self.tells(PLAIN, ("make_folder /e", "refused Taken"), ("make_folder /q/q", "refused NoThing"),
                   ("make_file /f/q =t", "refused WrongKind"), ("make_file / =", "refused Taken"),
                   ("write /a =t", "refused WrongKind"), ("write /q =t", "refused NoThing"),
                   ("put /f 199 =ab", "refused TooLong"), ("put / 0 =", "refused WrongKind"),
                   ("cut /q 1", "refused NoThing"), ("link /f /x", "refused Taken"),
                   ("link /a /n", "refused WrongKind"), ("drop /", "refused Within"), ("drop /a", "refused NotEmpty"),
                   ("drop /q", "refused NoThing"),
                   ("move / /n", "refused Within"), ("move /a /a/b/n", "refused Within"),
                   ("move /e /f", "refused WrongKind"), ("move /e /a", "refused NotEmpty"),
                   ("swap /a /a/b", "refused Within"), ("swap /a /q", "refused NoThing"),
                   ("hold /a", "refused WrongKind"), ("hold /q", "refused NoThing"), ("read_by 1", "refused NoHandle"),
                   ("write_by 0 =t", "refused NoHandle"), ("put_by 1 0 =t", "refused NoHandle"),
                   ("cut_by 1000000 1", "refused NoHandle"), ("count_by 1", "refused NoHandle"),
                   ("name_by 1 /n", "refused NoHandle"), ("close 1", "refused NoHandle"),
                   ("used", "0"), ("layer", ""))

    def test_too_deep(self):
        rows = ["folder " + "/a" * count + " alone" for count in range(1, 8)]
        self.tells(["layer"] + rows + ["folder /b alone", "folder /b/b alone", "folder /b/b/b alone", "end", "room 0"],
                   ("move /b /a/a/a/a/a/a/b", "refused TooDeep"), ("swap /b /a/a/a/a/a/a/a", "refused TooDeep"),
                   ("swap /a/a/a/a/a/a/a /b", "refused TooDeep"), ("move /b /a/a/a/a/a/b", "refused NoRoom"))

    def test_no_room(self):
        self.tells(BASE_ROWS + ["room 3"], ("make_folder /n", "done"), ("write /f =ab", "refused NoRoom"),
                   ("make_folder /n/n", "done"), ("drop /x", "done"), ("free", "0"), ("drop /e", "refused NoRoom"),
                   ("drop /n/n", "done"), ("put /f 0 =T", "refused NoRoom"), ("cut /f 0", "done"),
                   ("link /f /m", "refused NoRoom"), ("swap /a /c", "refused NoRoom"), ("hold /f", "done 1"),
                   ("write_by 1 =t", "refused NoRoom"), ("name_by 1 /m", "refused NoRoom"), ("read_by 1", "="),
                   ("layer", "folder /n alone; gone /x; data of /f ="), ("used", "3"))

    def test_room_of_nought(self):
        self.tells(BASE_ROWS + ["room 0"], ("make_folder /n", "refused NoRoom"), ("drop /e", "refused NoRoom"),
                   ("write /f =top", "done"), ("swap /f /x", "done"), ("used", "0"), ("free", "0"))

    def test_handles_through_drops_and_moves(self):
        self.tells(PLAIN, ("hold /a/b/f", "done 1"), ("drop /a/b/f", "done"), ("read_by 1", "=deep"),
                   ("count_by 1", "0"), ("write_by 1 =", "done"), ("read_by 1", "="), ("used", "4"),
                   ("close 1", "done"), ("used", "3"), ("hold /q", "refused NoThing"), ("hold /f", "done 2"),
                   ("move /a/g /f", "done"), ("read_by 2", "=top"), ("count_by 2", "1"))

    def test_texts_with_blanks_and_equals(self):
        self.tells(ROOM, ("make_file /f = =a  b= =c ", "done"), ("text /f", "= =a  b= =c "), ("hold /f", "done 1"),
                   ("read_by 1", "= =a  b= =c "), ("write /f ==", "done"), ("text /f", "=="), ("put /f 3 = =", "done"),
                   ("text /f", "==   ="), ("put_by 1 0 =", "done"), ("write_by 1 =  ", "done"), ("text /f", "=  "),
                   ("write /f =; ", "done"), ("layer", "file /f 0; data =; "))

    def test_a_text_that_reads_as_a_row(self):
        self.tells(ROOM, ("make_file /f =end", "done"), ("write /f =seal", "done"), ("text /f", "=seal"),
                   *[("write /f =seal", "done"), ("write /f =press 0", "done")] * 4, *[("seal", "done")] * 6,
                   ("write /f =layer", "done"), ("text /f", "=layer"))

    def test_numbers_and_paths_at_their_bounds(self):
        deep = "/aaaaaaaa" * 8
        long = "~" * 200
        self.tells(ROOM, *[("make_folder " + "/aaaaaaaa" * count, "done") for count in range(1, 8)],
                   ("make_file " + deep + " =" + long, "done"), ("put " + deep + " 200 =", "done"),
                   ("put " + deep + " 200 =t", "refused TooLong"), ("text " + deep, "=" + long),
                   ("cut " + deep + " 200", "done"), ("cut " + deep + " 0", "done"), ("text " + deep, "="),
                   ("hold " + deep, "done 1"), ("put_by 1 200 =", "done"), ("cut_by 1 200", "done"),
                   ("text " + deep, "=" + " " * 200), ("read_by 1000000", "refused NoHandle"), ("free", "999791"))


class Asks(StoryTest):
    def test_kind(self):
        self.tells(PLAIN, ("kind /", "folder"), ("kind /a", "folder"), ("kind /f", "file"), ("kind /q", "none"),
                   ("kind /f/q", "none"), ("kind /q/q", "none"))

    def test_text(self):
        self.tells(PLAIN, ("text /f", "=top"), ("cut /f 0", "done"), ("text /x", "="), ("text /q", "refused NoThing"),
                   ("text /f/q", "refused NoThing"), ("text /a", "refused WrongKind"), ("text /", "refused WrongKind"))

    def test_names(self):
        self.tells(PLAIN, ("names /", "a c e f x"), ("names /a", "b g"), ("names /e", ""),
                   ("names /f", "refused WrongKind"), ("names /q", "refused NoThing"),
                   ("names /f/q", "refused NoThing"))

    def test_count(self):
        self.tells(PLAIN, ("count /f", "2"), ("count /a/b/f", "1"), ("link /x /e/x", "done"), ("count /x", "3"),
                   ("count /a", "refused WrongKind"), ("count /q", "refused NoThing"))

    def test_same(self):
        self.tells(PLAIN, ("same /f /x", "yes"), ("same /x /f", "yes"), ("same /f /f", "yes"), ("same /f /a/g", "no"),
                   ("same /a /a", "no"), ("same /q /q", "no"), ("same /f /q", "no"), ("same / /", "no"))

    def test_walk(self):
        self.tells(PLAIN, ("walk", "/a /a/b /a/b/f=/a/b/f /a/g=/a/g /c /c/g=/a/g /e /f=/f /x=/f"))
        self.tells(ROOM, ("walk", ""), ("make_file /b =t", "done"), ("walk", "/b=/b"), ("link /b /a", "done"),
                   ("walk", "/a=/a /b=/a"), ("make_folder /c", "done"), ("walk", "/a=/a /b=/a /c"))

    def test_used_and_free(self):
        self.tells(BASE_ROWS + ["room 20"], ("used", "0"), ("free", "20"), ("write /f =other", "done"), ("used", "6"),
                   ("free", "14"), ("make_folder /n", "done"), ("used", "7"), ("free", "13"), ("hold /a/b/f", "done 1"),
                   ("write_by 1 =12345", "done"), ("used", "13"), ("drop /a/b/f", "done"), ("used", "16"),
                   ("free", "4"), ("close 1", "done"), ("used", "10"))

    def test_layer(self):
        self.tells(PLAIN, ("layer", ""), ("move /a /n", "done"), ("layer", "gone /a; folder /n over /a"),
                   ("drop /n/g", "done"), ("layer", "gone /a; folder /n over /a; gone /n/g"),
                   ("write /f =a; b", "done"),
                   ("layer", "gone /a; folder /n over /a; gone /n/g; data of /f =a; b"),
                   ("make_file /m =", "done"), ("link /x /y", "done"),
                   ("layer", "gone /a; file /m 1; folder /n over /a; gone /n/g; file /y 0; data of /f =a; b; data ="))

    def test_layer_with_a_mark_of_nine_names(self):
        deep = ["folder " + "/a" * count + " alone" for count in range(1, 8)]
        head = ["layer", *deep, "folder /b alone", "file /b/f 0", "data =t", "end"] + ROOM
        told = "; ".join(["folder " + "/a" * count + " over " + "/a" * count for count in range(1, 8)] + [
            "folder " + "/a" * 8 + " over /b", "gone " + "/a" * 8 + "/f", "gone /b"])
        self.tells(head, ("move /b " + "/a" * 8, "refused TooDeep"), ("hold /b/f", "done 1"), ("drop /b/f", "done"),
                   ("move /b " + "/a" * 8, "done"), ("layer", told), ("used", "10"), ("read_by 1", "=t"),
                   ("held " + "/a" * 8, "0 1"), ("seal", "done"), ("names " + "/a" * 8, ""), ("press 0", "done"),
                   ("held " + "/a" * 8, "0"), ("held /b", "refused NoThing"), ("layer", ""))

    def test_held(self):
        head = BASE_ROWS + ["layer", "folder /a over /a", "file /a/n 0", "data =new", "data of /f =other", "end"] + ROOM
        self.tells(head, ("held /", "0 1 2"), ("held /a", "0 1"), ("held /a/b", "0"), ("held /a/b/f", "0"),
                   ("held /a/n", "1"), ("held /f", "1"), ("held /x", "1"), ("held /q", "refused NoThing"),
                   ("held /f/q", "refused NoThing"), ("write /x =third", "done"), ("held /f", "2"),
                   ("drop /a/n", "done"), ("held /a", "0 1 2"), ("held /a/n", "refused NoThing"),
                   ("write /f =other", "done"), ("held /x", "1"), ("move /a /e/a", "done"), ("held /e/a", "0 1 2"),
                   ("held /e", "0 2"), ("held /e/a/b", "0"), ("make_folder /a", "done"), ("held /a", "2"))

    def test_held_over_no_layer(self):
        self.tells(ROOM, ("held /", "0"), ("make_folder /a", "done"), ("make_file /f =", "done"), ("held /a", "0"),
                   ("held /f", "0"), ("held /b", "refused NoThing"))

    def test_held_over_six_layers(self):
        head = BASE_ROWS + ["layer", "end"] * 4 + ["layer", "data of /f =six", "end"] + ROOM
        self.tells(head, ("held /", "0 1 2 3 4 5 6"), ("held /x", "5"), ("held /a", "0"), ("drop /a/g", "done"),
                   ("held /a", "0 6"), ("held /c/g", "0"))


THREE = BASE_ROWS + [
    "layer", "gone /a", "folder /n over /a", "data of /f =second", "end",
    "layer", "folder /m over /n", "file /m/n 0", "gone /n", "data =third", "end"]


class Press(StoryTest):
    WALK = "/c /c/g=/c/g /e /f=/f /m /m/b /m/b/f=/m/b/f /m/g=/c/g /m/n=/m/n /x=/f"

    def test_at_each_place(self):
        asks = [("walk", self.WALK), ("text /f", "=second"), ("layer", ""), ("used", "0")]
        self.tells(THREE + ROOM, *asks, ("held /m", "0 1 2"), ("held /f", "1"), ("held /m/n", "2"),
                   ("held /", "0 1 2 3"))
        self.tells(THREE + ROOM, ("press 0", "done"), *asks, ("held /m", "0 1"), ("held /f", "0"), ("held /m/n", "1"),
                   ("held /", "0 1 2"))
        self.tells(THREE + ROOM, ("press 1", "done"), *asks, ("held /m", "0 1"), ("held /f", "1"), ("held /m/n", "1"),
                   ("held /e", "0"), ("held /", "0 1 2"))
        self.tells(THREE + ROOM, ("press 0", "done"), ("press 0", "done"), *asks, ("held /m", "0"), ("held /m/n", "0"),
                   ("held /", "0 1"))
        self.tells(THREE + ROOM, ("press 1", "done"), ("press 0", "done"), *asks, ("held /m", "0"), ("held /", "0 1"))

    def test_the_top_goes_on(self):
        """The handles, what the top tells and its room are the same behind a press as ahead."""
        ahead = [("hold /f", "done 1"), ("hold /m/b/f", "done 2"), ("write_by 1 =mine", "done"),
                 ("drop /m/b/f", "done"), ("write_by 2 =out of sight", "done"), ("move /m /k", "done"),
                 ("make_file /k/z =", "done")]
        told = "folder /k over /m; folder /k/b over /m/b; gone /k/b/f; file /k/z 1; gone /m; data of /f =mine; data ="
        asks = [("layer", told), ("used", "24"), ("free", "976"), ("read_by 1", "=mine"),
                ("read_by 2", "=out of sight"), ("count_by 2", "0"), ("text /x", "=mine")]
        behind = [("hold /x", "done 3"), ("name_by 2 /k/b/f", "done"), ("write_by 3 =second", "done"),
                  ("layer", "folder /k over /m; file /k/z 1; gone /m; data of /m/b/f =out of sight; data ="),
                  ("close 1", "done"), ("hold /f", "done 4")]
        for presses in ((), ("press 0",), ("press 1",), ("press 0", "press 0"), ("press 1", "press 0")):
            self.tells(THREE + ["room 1000"], *ahead, *asks, *[(row, "done") for row in presses], *asks, *behind)

    def test_what_the_top_tells_is_still_counted_as_a_layer(self):
        self.tells(THREE + ROOM, ("write /f =mine", "done"), ("held /f", "3"), ("press 0", "done"), ("held /f", "2"),
                   ("press 0", "done"), ("held /f", "1"), ("drop /f", "done"), ("held /x", "1"))

    def test_the_room_stays(self):
        self.tells(THREE + ["room 2"], ("make_folder /q", "done"), ("press 1", "done"), ("free", "1"),
                   ("drop /e", "done"), ("press 0", "done"), ("drop /x", "refused NoRoom"), ("free", "0"))


class Seal(StoryTest):
    def test_what_was_told_becomes_a_layer(self):
        self.tells(BASE_ROWS + ["room 30"], ("move /a /n", "done"), ("write /f =other", "done"), ("used", "8"),
                   ("held /n", "0 1"), ("held /f", "1"), ("held /", "0 1"), ("seal", "done"), ("used", "0"),
                   ("free", "30"), ("layer", ""),
                   ("walk", "/c /c/g=/c/g /e /f=/f /n /n/b /n/b/f=/n/b/f /n/g=/c/g /x=/f"),
                   ("text /x", "=other"), ("held /n", "0 1"), ("held /f", "1"), ("held /", "0 1 2"),
                   ("drop /n/g", "done"), ("layer", "folder /n over /n; gone /n/g"), ("held /n", "0 1 2"),
                   ("write /f =top", "done"), ("layer", "folder /n over /n; gone /n/g; data of /f =top"),
                   ("held /x", "2"))

    def test_without_handles(self):
        self.tells(PLAIN, ("hold /f", "done 1"), ("hold /a/b/f", "done 2"), ("drop /a/b/f", "done"),
                   ("write_by 2 =four", "done"), ("used", "8"), ("layer", "folder /a over /a; folder /a/b over /a/b; "
                                                                        "gone /a/b/f"),
                   ("seal", "done"), ("read_by 1", "refused NoHandle"), ("name_by 2 /n", "refused NoHandle"),
                   ("close 1", "refused NoHandle"), ("used", "0"), ("hold /x", "done 1"), ("read_by 1", "=top"),
                   ("hold /c/g", "done 2"))

    def test_the_room_is_the_same_one(self):
        self.tells(["room 2"], ("make_folder /a", "done"), ("make_folder /b", "done"), ("drop /a", "done"),
                   ("make_folder /a", "done"), ("make_folder /c", "refused NoRoom"), ("seal", "done"), ("free", "2"),
                   ("drop /a", "done"), ("drop /b", "done"), ("make_folder /c", "refused NoRoom"), ("seal", "done"),
                   ("walk", ""), ("free", "2"), ("make_folder /c", "done"), ("held /c", "2"))

    def test_of_nothing_told(self):
        self.tells(ROOM, ("seal", "done"), ("held /", "0 1"), ("walk", ""), ("layer", ""))

    def test_six_times_over_no_layer(self):
        self.tells(ROOM, *[("seal", "done")] * 6, ("held /", "0 1 2 3 4 5 6"))

    def test_and_press(self):
        self.tells(ROOM, ("make_folder /a", "done"), ("seal", "done"), ("make_file /a/f =t", "done"),
                   ("hold /a/f", "done 1"), ("seal", "done"), ("move /a /b", "done"), ("hold /b/f", "done 1"),
                   ("held /b", "0 1 2"), ("press 0", "done"), ("held /b", "0 1"), ("read_by 1", "=t"),
                   ("layer", "gone /a; folder /b over /a"), ("seal", "done"), ("press 0", "done"), ("held /b", "0"),
                   ("held /", "0 1"), ("walk", "/b /b/f=/b/f"))

    def test_press_makes_place_for_a_further_seal(self):
        self.tells(ROOM, *[("seal", "done")] * 6, ("press 4", "done"), ("seal", "done"), ("press 0", "done"),
                   ("press 0", "done"), ("seal", "done"), ("seal", "done"), ("held /", "0 1 2 3 4 5 6"))


class Layers(StoryTest):
    def test_none(self):
        self.tells(["room 5"], ("walk", ""), ("names /", ""), ("kind /", "folder"))

    def test_without_rows(self):
        self.tells(["layer", "end", "layer", "", "end", "room 5"], ("walk", ""), ("held /", "0 1 2"))

    def test_six(self):
        head = []
        for number, name in enumerate("abcdef"):
            head += ["layer", "folder /" + name + " alone", "end"]
        self.tells(head + ROOM, ("names /", "a b c d e f"), ("held /f", "5"), ("press 4", "done"), ("held /f", "4"))

    def test_the_lowest_comes_first(self):
        self.tells(["layer", "file /f 0", "data =low", "end", "layer", "data of /f =high", "end"] + ROOM,
                   ("text /f", "=high"), ("write /f =low", "done"), ("layer", "data of /f =low"))

    def test_every_form_of_a_row(self):
        self.tells(BASE_ROWS + ["layer", "folder /a over /a", "gone /a/b", "file /b 1", "folder /d alone", "file /h 0",
                                "data of /f", "data =own text", "data of /a/g =x", "end"] + ROOM,
                   ("walk", "/a /a/g=/a/g /b=/b /c /c/g=/a/g /d /e /f=/f /h=/f /x=/f"), ("text /b", "=own text"),
                   ("text /c/g", "=x"), ("text /h", "=top"))

    def test_a_layer_that_is_not_the_least_stays_as_it_is_written(self):
        self.tells(BASE_ROWS + ["layer", "folder /a over /a", "gone /q", "data of /f =top", "end"] + ROOM,
                   ("held /a", "0 1"), ("held /f", "1"), ("layer", ""))


class EmptyRows(StoryTest):
    def test_everywhere(self):
        rows = BASE_ROWS + ["layer", "gone /e", "end", "room 9", "names /", "drop /x", "names /"]
        spaced = [""] + [part for row in rows for part in (row, "", "")]
        self.assertEqual(run(story(*spaced)), run(story(*rows)))
        self.assertEqual(run(story(*rows)), ["a c f x", "done", "a c f"])

    def test_ahead_and_behind(self):
        self.assertEqual(run("\n\nroom 1\n\nwalk\n\n"), [""])
        self.assertEqual(run("room 1\n"), [])

    def test_no_answers_for_them(self):
        self.assertEqual(run("room 1\n\nused\n\n\nfree\n"), ["0", "1"])


class Whole(StoryTest):
    def test_no_deed_and_no_ask(self):
        self.assertEqual(run("room 0"), [])
        self.assertEqual(run(story(*BASE_ROWS, "room 1000000")), [])

    def test_the_same_story_is_told_the_same_and_its_list_is_the_askers_own(self):
        text = story(*PLAIN, "hold /f", "walk", "drop /e", "seal", "names /")
        answers = run(text)
        kept = list(answers)
        answers.append("more")
        answers.reverse()
        self.assertEqual(run(text), kept)
        self.assertIsNot(run(text), run(text))
        self.assertIsNot(run("room 1"), run("room 1"))

    def test_four_hundred_rows_and_more(self):
        rows = ["room 9"] + ["make_folder /a", "drop /a"] * 225
        self.assertEqual(run(story(*rows)), ["done"] * 450)

    def test_rows_of_three_hundred_signs_and_more(self):
        deep, other = "/aaaaaaaa" * 8, "/bbbbbbbb" * 8
        row = "same " + deep + " " + other
        self.assertEqual(run(story("room 9", row, "put " + deep + " 0 =" + "t" * 200)), ["no", "refused NoThing"])
        self.assertEqual(run(story("layer", "file /f 0", "data =" + "t" * 200, "end", "room 9", "count /f")), ["1"])

    def test_more_than_twenty_handles(self):
        self.assertEqual(run(story("room 9", "make_file /f =", *["hold /f"] * 25))[-1], "done 25")


class ManyPaths(StoryTest):
    """A top of more paths than a layer may show goes on by itself, but nothing can lie on it."""

    def test_seal_and_held(self):
        names = [one + two for one in "abcdefgh" for two in "abcdefghijklmnopqrstuvwxy"]
        head = ["layer"] + ["folder /" + name + " alone" for name in names] + ["end"] + ROOM
        self.tells(head, ("held /", "0 1"), ("make_folder /z", "done"), ("kind /z", "folder"),
                   ("layer", "folder /z alone"), ("held /", "refused NoFit"), ("seal", "refused NoFit"),
                   ("press 0", "refused NoFit"), ("layer", "folder /z alone"), ("drop /aa", "done"), ("held /z", "1"))


ASK_WORDS = ["kind", "text", "names", "count", "walk", "used", "free", "layer", "held", "same", "held"]


def an_ask(dice, model):
    word = dice.one_of(ASK_WORDS)
    if word in ("walk", "used", "free", "layer"):
        return (word,)
    if word == "same":
        return (word, a_path(dice, model), a_path(dice, model))
    return (word, a_path(dice, model))


def a_step(dice, model):
    turn = dice.below(12)
    if turn == 0 and len(model.layers) > 1:
        return ("press", dice.below(len(model.layers) - 1))
    if turn == 1 and len(model.layers) < 6:
        return ("seal",)
    return an_ask(dice, model.top) if turn > 7 else a_deed(dice, model.top)


def can_be_written(step):
    return all(len(value) <= 8 for value in step[1:] if isinstance(value, tuple))


class ByChance(StoryTest):
    def check(self, seed, met):
        dice = Dice(seed)
        layers = layers_of_both(dice, dice.below(5))[:6]
        room = 1 + dice.below(14) if dice.below(3) else 10 ** 6
        model, rows, answers = StoryModel(layers, room), layer_rows(layers) + [f"room {room}"], []
        while len(answers) < 50:
            step = a_step(dice, model)
            if can_be_written(step):
                rows += [""] * (dice.below(8) == 0) + [step_row(step)]
                answers.append(model.answer(step))
                met[step[0] + (" " + answers[-1] if answers[-1].startswith("refused") else "")] = True
        self.assertEqual(run(story(*rows)), answers, rows)

    def test_whole_stories_against_the_model(self):
        met = {}
        for seed in range(160):
            self.check(seed, met)
        for word in WORDS + ASK_WORDS + ["press", "seal"]:
            self.assertIn(word, met)
        for refusal in ("text refused NoThing", "text refused WrongKind", "held refused NoThing",
                        "names refused WrongKind", "drop refused NotEmpty", "write refused NoRoom",
                        "read_by refused NoHandle", "move refused Within", "put refused TooLong"):
            self.assertIn(refusal, met)

    def test_the_model_by_worked_examples(self):
        model = StoryModel([BASE], 20)
        for row, answer in ((("move", ("a",), ("n",)), "done"), (("layer",), "gone /a; folder /n over /a"),
                            (("used",), "2"), (("drop", ("e",)), "done"), (("held", ("n",)), "0 1"), (("free",), "17"),
                            (("seal",), "done"), (("layer",), ""), (("held", ()), "0 1 2"), (("press", 0), "done"),
                            (("held", ()), "0 1"), (("names", ()), "c f n x"), (("same", ("f",), ("x",)), "yes"),
                            (("make_file", ("q",), "t" * 20), "refused NoRoom"), (("walk",),
                             "/c /c/g=/c/g /f=/f /n /n/b /n/b/f=/n/b/f /n/g=/c/g /x=/f")):
            self.assertEqual(model.answer(row), answer, row)

    def test_the_models_layers_by_worked_examples(self):
        over = lay("gone /a", "folder /n over /a", "data of /f =new")
        self.assertEqual(pressed_model([BASE, over], 0), lay(
            "folder /c alone", "file /c/g 0", "folder /e alone", "file /f 1", "folder /n alone", "folder /n/b alone",
            "file /n/b/f 2", "file /n/g 0", "file /x 1", "data =one", "data =new", "data =deep"))
        self.assertEqual(pressed_model([BASE, over, lay("folder /a over /n", "gone /n")], 1), lay("data of /f =new"))
        self.assertEqual(least_of([BASE], {(): ("folder", ()), ("f",): ("file", 0)}, {0: (("f",), "top")}),
                         lay("gone /a", "gone /c", "gone /e", "gone /x"))


if __name__ == "__main__":
    unittest.main()
