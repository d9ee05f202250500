"""Stories that are not so written, each with the number of its first such row: points 23 and 24."""

import unittest

from overfold.errors import BadLayer
from overfold.layers import read_layer
from overfold.stories import run
from overfold.storyrows import FORMS, read_story
from layer_help import BASE, EMPTY, MANY_NAMES
from shelf_model import WORDS
from story_help import BASE_ROWS, StoryTest, story

# Each word with a row of it that is well written, whether it is done or refused.
GOOD_ROWS = [
    "make_folder /n", "make_file /n =t", "write /f =t", "put /f 3 =t", "cut /f 2", "link /f /n", "drop /n",
    "move /a /n", "swap /a /c", "hold /f", "read_by 1", "write_by 1 =t", "put_by 1 3 =t", "cut_by 1 2", "count_by 1",
    "name_by 1 /n",
    "close 1", "kind /a", "text /f", "names /a", "count /f", "same /f /x", "walk", "used", "free", "layer", "held /a",
    "press 0", "seal"]
# Three layers, so that a press and a seal can be done.
HEAD = BASE_ROWS + ["layer", "end", "layer", "end", "room 9"]


class RowsTest(StoryTest):
    def bad_row(self, row):
        """The row can't stand behind the room; the rows around it are well written."""
        self.bad(len(HEAD), *HEAD, row, "walk")
        self.bad(len(HEAD) + 3, *HEAD, "walk", "", "drop /e", row)

    def good_row(self, row):
        self.assertEqual(len(run(story(*HEAD, row, "walk"))), 2)


class Words(RowsTest):
    def test_every_word_stands_in_the_rows(self):
        words = [row.split(" ")[0] for row in GOOD_ROWS]
        self.assertEqual(words, list(FORMS))
        self.assertEqual((len(words), set(WORDS) - set(words)), (29, set()))
        for row in GOOD_ROWS:
            self.good_row(row)

    def test_blanks_ahead_and_behind(self):
        for row in GOOD_ROWS:
            self.bad_row(" " + row)
            if "=" not in row:
                self.bad_row(row + " ")

    def test_parted_otherwise_than_by_one_blank(self):
        for row in GOOD_ROWS:
            words = row.split(" ")
            for at in range(1, len(words)):
                for parting in ("  ", "\t", "", ",", " \t", "\u00a0", "\r"):
                    self.bad_row(" ".join(words[:at]) + parting + " ".join(words[at:]))

    def test_too_few(self):
        for row in GOOD_ROWS:
            if " " in row:
                self.bad_row(row.rpartition(" ")[0])
                self.bad_row(row.partition(" ")[0])

    def test_too_many(self):
        for row in GOOD_ROWS:
            if "=" not in row:
                for word in ("/a", "1", "=", "=t", "x", "alone"):
                    self.bad_row(row + " " + word)
            else:
                self.bad_row(row.replace(" =", " /a ="))
                self.bad_row(row.replace(" =", " 1 ="))

    def test_words_that_are_none(self):
        for row in ("kind_of /a", "text_of /f", "names_in /a", "count_of /f", "same_file /f /x", "walked", "handles",
                    "used_room", "free_room", "told_layer", "held_by /a", "pressed 0", "press_all", "done", "refused",
                    "Drop /n", "DROP /n", "drop: /n", "# words", "=t", " =t", "=", "/a", "0", "end", "room", "alone",
                    "folder /n alone", "gone /a", "data =t", "data", "file /n 0"):
            self.bad_row(row)

    def test_blanks_alone_are_not_empty(self):
        for row in (" ", "  ", "\t", "\r", " " * 300):
            self.bad_row(row)
            self.bad(0, row, "room 1")
            self.bad(1, "layer", row, "end", "room 1")

    def test_words_in_another_order(self):
        for row in ("/f write =t", "write =t /f", "put /f =t 3", "put 3 /f =t", "cut 2 /f", "name_by /n 1",
                    "put_by 3 =t", "cut_by 1 =2", "1 read_by", "/a kind"):
            self.bad_row(row)


class Numbers(RowsTest):
    ROWS = ["read_by {}", "write_by {} =t", "put_by {} 3 =t", "cut_by {} 2", "count_by {}", "name_by {} /n", "close {}"]
    PLACES = ["put /f {} =t", "put_by 1 {} =t", "cut /f {}", "cut_by 1 {}"]
    NO_NUMBERS = ["00", "01", "007", "-1", "+1", "-0", "1.0", "1e3", "0x1", "1_0", "one", "", "a", "=1", "/1", "1a",
                  "\u0661", "\u00b2", "\uff11", "1\t", "10000000000000000000000000", "9" * 250]

    def test_plain_figures_alone(self):
        for form in self.ROWS + self.PLACES + ["press {}"]:
            for number in self.NO_NUMBERS:
                self.bad_row(form.format(number))
        for number in self.NO_NUMBERS:
            self.bad(0, "room " + number, "walk")

    def test_handles_up_to_a_million(self):
        for form in self.ROWS:
            for number in (0, 1, 10, 999999, 1000000):
                self.good_row(form.format(number))
            for number in (1000001, 1000010, 10000000):
                self.bad_row(form.format(number))

    def test_places_and_sizes_up_to_two_hundred(self):
        for form in self.PLACES:
            for number in (0, 1, 20, 199, 200):
                self.good_row(form.format(number))
            for number in (201, 210, 1000, 1000000):
                self.bad_row(form.format(number))

    def test_the_room_up_to_a_million(self):
        for number in (0, 1, 10, 999999, 1000000):
            self.assertEqual(run(story(f"room {number}", "free")), [str(number)])
        for number in (1000001, 10000000):
            self.bad(0, f"room {number}", "free")


class Texts(RowsTest):
    FORMS = ["make_file /n =", "write /f =", "put /f 3 =", "write_by 1 =", "put_by 1 3 ="]

    def test_two_hundred_signs(self):
        for form in self.FORMS:
            for text in ("", " ", "=", " =", "t" * 200, "~" * 200, " " * 200, "=" * 200):
                self.good_row(form + text)
            for text in ("t" * 201, " " * 201, "=" * 201, "t" * 250):
                self.bad_row(form + text)

    def test_every_sign_but_the_percent_sign(self):
        for form in self.FORMS:
            for number in list(range(0, 10)) + list(range(11, 140)) + [160, 228, 8364, 65345]:
                check = self.good_row if 32 <= number <= 126 and number != 37 else self.bad_row
                check(form + "a" + chr(number) + "b")

    def test_without_its_sign_of_equality(self):
        for form in self.FORMS:
            self.bad_row(form[:-1] + "t")
            self.bad_row(form[:-1])
            self.bad_row(form[:-2])


class Paths(RowsTest):
    FORMS = ["make_folder {}", "make_file {} =t", "write {} =t", "put {} 3 =t", "cut {} 2", "link {} /n", "link /f {}",
             "drop {}", "move {} /n", "move /a {}", "swap {} /c", "swap /c {}", "hold {}", "name_by 1 {}", "kind {}",
             "text {}", "names {}", "count {}", "same {} /f", "same /f {}", "held {}"]

    def test_no_path(self):
        for form in self.FORMS:
            for path in ("", "a", "a/b", "//", "/a/", "//a", "/a//b", "/A", "/a1", "/a-b", "/aaaaaaaaa", "/" + "a" * 20,
                         "/\u00e4", "()", "/a=", "=/a", "/.", "/..", "\\a"):
                self.bad_row(form.format(path))

    def test_eight_names_and_nine(self):
        for form in self.FORMS:
            self.good_row(form.format("/"))
            self.good_row(form.format("/aaaaaaaa" * 8))
            self.bad_row(form.format("/a" * 9))


class LayersRows(StoryTest):
    def test_a_row_that_read_layer_refuses_is_told_there(self):
        """Each layer's text is refused by read_layer at some row, and the story at that row's number in it."""
        for rows in (["gone"], ["folder /a"], ["folder /a alone", "gone /a"], ["gone /b", "gone /a"], ["gone /a/b"],
                     ["file /a 00"], ["file /a 200"], ["folder /a alone", "x"], ["data of /a", "gone /a"],
                     ["data of /a", "data of /a =t"], ["data of /"], ["data =" + "t" * 201],
                     ["file /a 0", "data =50" + chr(37)], ["folder /a alone", "gone /a/b", " gone /c"], ["gone /c "],
                     ["gone /"], ["folder / alone"], ["gone " + "/a" * 9], ["file " + "/a" * 9 + " 0"], ["data"]):
            with self.assertRaises(BadLayer) as caught:
                read_layer(story(*rows))
            at = caught.exception.row
            self.assertEqual(at, len(rows) - 1)
            self.bad(1 + at, "layer", *rows, "end", "room 1")
            self.bad(1 + at, "layer", *rows)
            self.bad(len(BASE_ROWS) + 1 + at, *BASE_ROWS, "layer", *rows, "end", "room 1")
            self.bad(3 + 2 * at, "", "layer", *[part for row in rows for part in ("", row)], "end", "room 1")

    def test_rows_of_other_places(self):
        for row in ("layer", "room 1", "walk", "seal", "end ", " end", "ends", "END", "make_folder /a"):
            self.bad(1, "layer", row, "end", "room 1")
            self.bad(2, "layer", "gone /a", row, "end", "room 1")

    def test_rows_and_files_too_many(self):
        rows = ["gone /" + one + two for one in "abcdefghijklmnopq" for two in "abcdefghijklmnopqrstuvwxy"]
        self.assertEqual(run(story("layer", *rows[:400], "end", "room 1")), [])
        self.bad(401, "layer", *rows[:401], "end", "room 1")
        names = MANY_NAMES + ["z"]
        pairs = ["data =" + name for name in names]
        entries = [f"file /{name} {number}" for number, name in enumerate(names[:200])]
        self.assertEqual(run(story("layer", *entries, *pairs[:200], "end", "room 1")), [])
        self.bad(401, "layer", *entries, *pairs, "end", "room 1")

    def test_at_the_end_where_the_whole_is_refused(self):
        for rows in (["file /a 0"], ["file /a 1", "data =t"], ["data =t"], ["file /a 0", "data =t", "data =u"],
                     ["file /a 3", "data of /f"]):
            with self.assertRaises(BadLayer) as caught:
                read_layer(story(*rows))
            self.assertEqual(caught.exception.row, len(rows))
            self.bad(1 + len(rows), "layer", *rows, "end", "room 1")
            self.bad(3 + len(rows), "layer", "", *rows, "", "end", "room 1")
            self.bad(len(BASE_ROWS) + 1 + len(rows), *BASE_ROWS, "layer", *rows, "end", "room 1")

    def test_at_the_end_where_it_does_not_fit(self):
        at = len(BASE_ROWS)
        for rows in (["folder /n over /q"], ["folder /n over /f"], ["folder /n over /a"], ["folder /n over /"],
                     ["data of /q"], ["data of /x =t"], ["data of /a =t"]):
            self.bad(at + 1 + len(rows), *BASE_ROWS, "layer", *rows, "end", "room 1")
            self.bad(1 + len(rows), "layer", *rows, "end", *BASE_ROWS, "room 1")
        many = ["folder /" + name + " alone" for name in MANY_NAMES]
        self.assertEqual(run(story("layer", *many, "end", "room 1")), [])
        self.bad(202, "layer", *many, "folder /z alone", "end", "room 1")
        deep = ["folder " + "/b" * count + " alone" for count in range(1, 8)] + ["folder " + "/b" * 8 + " over /a"]
        self.bad(at + 10, *BASE_ROWS, "layer", "gone /a", *deep, "end", "room 1")

    def test_a_layer_fits_on_those_ahead_not_on_those_behind(self):
        low, middle = ["layer", "folder /a alone", "end"], ["layer", "gone /a", "folder /b over /a", "end"]
        high = ["layer", "gone /b", "folder /c over /b", "end"]
        self.assertEqual(run(story(*low, *middle, *high, "room 1", "walk")), ["/c"])
        self.bad(6, *low, *high, *middle, "room 1")
        self.bad(3, *middle, *low, *high, "room 1")
        self.bad(10, *low, *middle, *middle, "room 1")

    def test_a_mark_of_nine_names_may_stand(self):
        deep = ["folder " + "/a" * count + " alone" for count in range(1, 8)]
        rows = ["layer", "folder /b alone", "file /b/f 0", "data =t", "end", "layer", *deep, "folder " + "/a" * 8 +
                " over /b", "gone " + "/a" * 8 + "/f", "gone /b", "end", "room 1", "names " + "/a" * 8, "kind /b"]
        self.assertEqual(run(story(*rows)), ["", "none"])
        self.bad(len(rows), *rows, "drop " + "/a" * 8 + "/f")


class Order(StoryTest):
    def test_a_seventh_layer(self):
        six = ["layer", "end"] * 6
        self.assertEqual(run(story(*six, "room 1", "held /")), ["0 1 2 3 4 5 6"])
        self.bad(12, *six, "layer", "end", "room 1")
        self.bad(13, *six, "", "layer")
        self.bad(12, *six, "layer", "x")

    def test_deeds_and_asks_ahead_of_the_room(self):
        for row in GOOD_ROWS:
            if row != "layer":
                self.bad(0, row, "room 1")
                self.bad(len(BASE_ROWS), *BASE_ROWS, row, "room 1")
                self.bad(len(BASE_ROWS), *BASE_ROWS, row)

    def test_the_room_behind_the_room(self):
        self.bad(1, "room 1", "room 1")
        self.bad(3, "room 1", "walk", "", "room 2", "walk")
        self.bad(2, "layer", "end", "room", "room 1")

    def test_rooms_that_are_not_so_written(self):
        for row in ("room", "room ", "room  1", " room 1", "room 1 ", "room 1 1", "room =1", "room 1 =", "Room 1",
                    "rooms 1", "room\t1", "room1"):
            self.bad(0, row, "walk")
            self.bad(2, "layer", "end", row)

    def test_the_end_without_a_layer(self):
        self.bad(0, "end", "room 1")
        self.bad(2, "layer", "end", "end", "room 1")
        self.bad(1, "room 1", "end")
        self.bad(2, "room 1", "layer", "end")

    def test_layers_that_are_not_so_begun(self):
        for row in ("layer ", " layer", "layer 0", "Layer", "layers", "layer =", "gone /a"):
            self.bad(0, row, "end", "room 1")

    def test_a_layer_behind_the_room_is_an_ask(self):
        self.assertEqual(run(story("room 1", "layer", "layer")), ["", ""])
        self.bad(2, "room 1", "layer", "gone /a", "end")


class PressAndSeal(StoryTest):
    def with_layers(self, count):
        return ["layer", "end"] * count + ["room 1"]

    def test_places_that_are_there(self):
        for count in range(7):
            head = self.with_layers(count)
            for at in list(range(count + 2)) + [999999, 1000000]:
                if at + 1 < count:
                    self.assertEqual(run(story(*head, f"press {at}")), ["done"])
                else:
                    self.bad(len(head), *head, f"press {at}")

    def test_each_press_takes_one_away(self):
        for count in range(1, 7):
            head = self.with_layers(count)
            rows = ["press 0"] * (count - 1)
            self.assertEqual(run(story(*head, *rows, "held /")), ["done"] * (count - 1) + ["0 1"])
            self.bad(len(head) + count - 1, *head, *rows, "press 0")
        head = self.with_layers(3)
        self.bad(len(head) + 1, *head, "press 1", "press 1")
        self.bad(len(head) + 2, *head, "press 1", "", "press 1")

    def test_each_seal_adds_one(self):
        head = self.with_layers(1)
        self.bad(len(head), *head, "press 0", "seal")
        self.bad(len(head) + 1, *head, "seal", "press 1", "seal")
        self.assertEqual(run(story(*head, "seal", "press 0", "seal", "seal", "press 1", "held /")),
                         ["done"] * 5 + ["0 1 2"])
        self.bad(len(head) + 5, *head, "seal", "press 0", "seal", "seal", "press 1", "press 1")

    def test_a_seal_over_six_layers(self):
        for count in range(7):
            head, seals = self.with_layers(count), ["seal"] * (6 - count)
            self.assertEqual(run(story(*head, *seals)), ["done"] * len(seals))
            self.bad(len(head) + len(seals), *head, *seals, "seal")
            self.bad(len(head) + len(seals) + 1, *head, *seals, "walk", "seal", "press 0")

    def test_press_makes_place_for_a_seal(self):
        head = self.with_layers(6)
        self.assertEqual(run(story(*head, "press 4", "seal", "press 0", "seal")), ["done"] * 4)
        self.bad(len(head) + 4, *head, "press 4", "seal", "press 0", "seal", "seal")

    def test_rows_with_other_words(self):
        head = self.with_layers(3)
        for row in ("press", "press 0 1", "press /", "press =0", "press -1", "press 00", "seal 0", "seal /", "seal =",
                    "press 1000001"):
            self.bad(len(head), *head, row)


class NeverThere(StoryTest):
    def test_the_room(self):
        self.bad(1, "")
        self.bad(2, "", "")
        self.bad(5, "", "", "", "", "")
        self.bad(2, "layer", "end")
        self.bad(3, "layer", "end", "")
        self.bad(len(BASE_ROWS), *BASE_ROWS)

    def test_the_end(self):
        self.bad(1, "layer")
        self.bad(2, "layer", "folder /a alone")
        self.bad(4, "layer", "folder /a alone", "", "")
        self.bad(len(BASE_ROWS) + 2, *BASE_ROWS, "layer", "gone /a")

    def test_a_whole_that_would_be_refused_has_no_end_to_be_told_at(self):
        self.bad(2, "layer", "file /a 0")
        self.bad(len(BASE_ROWS) + 2, *BASE_ROWS, "layer", "folder /n over /q")


class TheFirst(StoryTest):
    def test_of_two_rows(self):
        self.bad(1, "room 1", "x", "y")
        self.bad(1, "room 1", "drop", "room 2")
        self.bad(1, "layer", "x", "end", "room 01")
        self.bad(0, "x")
        self.bad(0, "walk", "layer", "gone")
        self.bad(2, "layer", "file /a 0", "end", "x")
        self.bad(3, "room 1", "walk", "", "walk ", "press 0")
        self.bad(2, "room 1", "walk", "press 0", "seal ")

    def test_ahead_of_the_count_of_rows(self):
        self.bad(0, "end")
        self.bad(1, "layer", "x")
        self.bad(2, "layer", "end", "walk")

    def test_ahead_of_all_answers(self):
        rows = BASE_ROWS + ["room 1"] + ["drop /q"] * 300
        self.bad(len(rows), *rows, "x")

    def test_a_line_end_is_a_line_feed_alone(self):
        for sign in ("\r", "\u2028", "\x0b", "\x0c", "\x85", "\x1c"):
            self.bad(0, "room 1" + sign + "walk")
            self.bad(1, "room 1", "make_file /f =a" + sign + "walk")


class Reading(StoryTest):
    def test_layers_room_and_steps(self):
        rows = BASE_ROWS + ["layer", "", "end", "room 12", "put /a 3 = x", "", "same / /a/b", "press 0", "walk"]
        self.assertEqual(read_story(story(*rows)), (
            [BASE, EMPTY], 12, [("put", ("a",), 3, " x"), ("same", (), ("a", "b")), ("press", 0), ("walk",)]))

    def test_two_reads_share_nothing(self):
        text = story("layer", "end", "room 1", "walk")
        first = read_story(text)
        first[0].append(BASE)
        first[2].append(("seal",))
        self.assertEqual(read_story(text), ([EMPTY], 1, [("walk",)]))


if __name__ == "__main__":
    unittest.main()
