"""Lookers at one path of a shelf and beneath it: point 22."""

import copy
import inspect
import unittest

from overfold.doing import done
from overfold.lookers import Looker
from overfold.shelf import Shelf
from overfold.tops import Top
from overfold.unlike import unlike
from layer_dice import some_layers
from layer_help import BASE
from shelf_help import p, sample, state_of
from shelf_model import Dice, WORDS, a_deed
from top_model import TopModel
from unlike_help import told, unlike_models

PLENTY = 10 ** 6
DONE = ("done", None)


class LookerTest(unittest.TestCase):
    def setUp(self):
        self.top = Top([BASE], PLENTY)

    def looks(self, looker, deed, answer, *rows):
        """The looker's deed is answered so, and these rows are told of it."""
        self.assertEqual(looker.looked_at(deed), (answer, told(*rows)), deed)


class Interface(unittest.TestCase):
    def test_arguments(self):
        for call, names in ((Looker, ["top", "path"]), (Looker.looked_at, ["self", "deed"]),
                            (Looker.looked_again, ["self"]), (Looker.all_heard, ["self"]),
                            (Looker.deeds_done, ["self"])):
            self.assertEqual(list(inspect.signature(call).parameters), names)

    def test_kinds_of_what_is_told(self):
        looker = Looker(sample(), ())
        answer = looker.looked_at(("drop", p("/x")))
        self.assertEqual((type(answer), len(answer), type(answer[0]), type(answer[1])), (tuple, 2, tuple, list))
        for rows in (looker.looked_again(), looker.all_heard(), looker.deeds_done()):
            self.assertIs(type(rows), list)


class AtTheRoot(LookerTest):
    def test_nothing_at_first(self):
        for shelf in (Shelf(), sample(), self.top):
            looker = Looker(shelf, ())
            self.assertEqual((looker.all_heard(), looker.deeds_done(), looker.looked_again()), ([], [], []))

    def test_every_word_done(self):
        """All words of point 9, each with what it tells and what it changes."""
        looker = Looker(self.top, ())
        self.looks(looker, ("make_folder", p("/n")), DONE, "made /n")
        self.looks(looker, ("make_file", p("/n/f"), "new"), DONE, "made /n/f")
        self.looks(looker, ("write", p("/x"), "ab"), DONE, "text /f", "text /x")
        self.looks(looker, ("put", p("/n/f"), 3, "er"), DONE, "text /n/f")
        self.looks(looker, ("cut", p("/f"), 1), DONE, "text /f", "text /x")
        self.looks(looker, ("link", p("/n/f"), p("/b")), DONE, "made /b", "first /n/f")
        self.looks(looker, ("drop", p("/b")), DONE, "gone /b", "first /n/f")
        self.looks(looker, ("move", p("/c"), p("/e")), DONE, "gone /c", "gone /c/g", "made /e/g")
        self.looks(looker, ("swap", p("/n"), p("/f")), DONE, "gone /f", "made /f", "made /f/f", "gone /n", "made /n",
                   "gone /n/f", "first /x")
        self.looks(looker, ("hold", p("/x")), ("done", 1))
        self.looks(looker, ("read_by", 1), ("done", "a"))
        self.looks(looker, ("write_by", 1, "held"), DONE, "text /n", "text /x")
        self.looks(looker, ("put_by", 1, 0, "H"), DONE, "text /n", "text /x")
        self.looks(looker, ("cut_by", 1, 2), DONE, "text /n", "text /x")
        self.looks(looker, ("count_by", 1), ("done", 2))
        self.looks(looker, ("name_by", 1, p("/b")), DONE, "made /b", "first /n", "first /x")
        self.looks(looker, ("close", 1), DONE)
        self.assertEqual(len(looker.deeds_done()), 17)
        self.assertEqual({deed[0] for deed in looker.deeds_done()}, set(WORDS))

    def test_every_word_refused(self):
        looker = Looker(Top([BASE], 0), ())
        for deed, name in ((("make_folder", p("/e")), "Taken"), (("make_file", p("/q/q"), "t"), "NoThing"),
                           (("write", p("/a"), "t"), "WrongKind"), (("put", p("/f"), 199, "ab"), "TooLong"),
                           (("cut", p("/f"), 1), "NoRoom"), (("link", p("/f"), p("/x")), "Taken"),
                           (("drop", p("/a")), "NotEmpty"), (("move", p("/a"), p("/a/n")), "Within"),
                           (("swap", p("/a"), p("/q")), "NoThing"), (("hold", p("/e")), "WrongKind"),
                           (("read_by", 1), "NoHandle"), (("write_by", 1, "t"), "NoHandle"),
                           (("put_by", 1, 0, "t"), "NoHandle"), (("cut_by", 1, 0), "NoHandle"),
                           (("count_by", 1), "NoHandle"), (("name_by", 1, p("/n")), "NoHandle"),
                           (("close", 1), "NoHandle")):
            self.looks(looker, deed, ("refused", name))
        self.assertEqual((looker.all_heard(), looker.deeds_done()), ([], []))

    def test_a_deed_that_changes_nothing_is_done(self):
        looker = Looker(self.top, ())
        for deed in (("write", p("/f"), "top"), ("move", p("/f"), p("/x")), ("swap", p("/a"), p("/a")),
                     ("put", p("/f"), 1, "")):
            self.looks(looker, deed, DONE)
        self.assertEqual((len(looker.deeds_done()), looker.all_heard()), (4, []))

    def test_a_file_without_a_name(self):
        looker = Looker(self.top, ())
        self.looks(looker, ("hold", p("/a/b/f")), ("done", 1))
        self.looks(looker, ("drop", p("/a/b/f")), DONE, "gone /a/b/f")
        self.looks(looker, ("write_by", 1, "out of sight"), DONE)
        self.looks(looker, ("read_by", 1), ("done", "out of sight"))
        self.looks(looker, ("count_by", 1), ("done", 0))
        self.looks(looker, ("name_by", 1, p("/a/b/f")), DONE, "made /a/b/f")


class AtAPath(LookerTest):
    def test_at_the_path_and_beneath_it_alone(self):
        looker = Looker(self.top, p("/a"))
        self.looks(looker, ("make_folder", p("/a/b/c")), DONE, "made /a/b/c")
        for deed in (("make_folder", p("/ab")), ("make_folder", p("/ab/b")), ("drop", p("/e")),
                     ("make_folder", p("/c/a")), ("write", p("/f"), "t")):
            self.looks(looker, deed, DONE)
        self.looks(looker, ("write", p("/c/g"), "t"), DONE, "text /a/g")
        self.looks(looker, ("move", p("/a"), p("/n")), DONE, "gone /a", "gone /a/b", "gone /a/b/c", "gone /a/b/f",
                   "gone /a/g")
        self.looks(looker, ("write", p("/n/g"), "u"), DONE)
        self.looks(looker, ("make_file", p("/a"), ""), DONE, "made /a")

    def test_the_folder_above_is_moved_and_put_back(self):
        looker = Looker(self.top, p("/a/b"))
        self.looks(looker, ("move", p("/a"), p("/n")), DONE, "gone /a/b", "gone /a/b/f")
        self.looks(looker, ("write", p("/n/b/f"), "t"), DONE)
        self.looks(looker, ("move", p("/n"), p("/a")), DONE, "made /a/b", "made /a/b/f")

    def test_a_path_that_comes_to_be_and_goes_again(self):
        looker = Looker(self.top, p("/n/m"))
        self.looks(looker, ("make_file", p("/n/m"), "t"), ("refused", "NoThing"))
        self.looks(looker, ("make_folder", p("/n")), DONE)
        self.looks(looker, ("make_file", p("/n/m"), "t"), DONE, "made /n/m")
        self.looks(looker, ("cut", p("/n/m"), 0), DONE, "text /n/m")
        self.looks(looker, ("swap", p("/n/m"), p("/a")), DONE, "gone /n/m", "made /n/m", "made /n/m/b", "made /n/m/b/f",
                   "made /n/m/g")
        self.looks(looker, ("drop", p("/n/m/b/f")), DONE, "gone /n/m/b/f")
        self.looks(looker, ("move", p("/n/m"), p("/m")), DONE, "gone /n/m", "gone /n/m/b", "gone /n/m/g")
        self.looks(looker, ("drop", p("/n")), DONE)

    def test_a_path_behind_a_files_name(self):
        looker = Looker(self.top, p("/f/n"))
        self.looks(looker, ("write", p("/f"), "t"), DONE)
        self.looks(looker, ("swap", p("/f"), p("/a")), DONE)
        self.looks(looker, ("make_file", p("/f/n"), "t"), DONE, "made /f/n")

    def test_a_first_path_that_lies_elsewhere(self):
        looker = Looker(self.top, p("/c/g"))
        self.looks(looker, ("link", p("/c/g"), p("/a/h")), DONE)
        self.looks(looker, ("drop", p("/a/g")), DONE, "first /c/g")
        self.looks(looker, ("move", p("/a/h"), p("/b")), DONE, "first /c/g")
        self.looks(looker, ("move", p("/b"), p("/n")), DONE, "first /c/g")
        self.looks(looker, ("drop", p("/n")), DONE)

    def test_of_a_shelf_too(self):
        shelf = sample()
        looker = Looker(shelf, p("/c"))
        self.looks(looker, ("swap", p("/c"), p("/e")), DONE, "gone /c/g")
        self.looks(looker, ("make_folder", p("/c/n")), DONE, "made /c/n")
        self.assertEqual(shelf.names_in(p("/c")), ["n"])


class OthersBetween(LookerTest):
    def meddle(self):
        self.top.write(p("/a/b/f"), "meddled")
        self.top.drop(p("/a/g"))
        self.top.make_folder(p("/a/n"))
        self.top.drop(p("/x"))

    def test_told_by_the_next_deed_with_what_it_does(self):
        looker = Looker(self.top, p("/a"))
        self.meddle()
        self.looks(looker, ("make_folder", p("/a/c")), DONE, "text /a/b/f", "made /a/c", "gone /a/g", "made /a/n")
        self.assertEqual(looker.looked_again(), [])

    def test_told_by_a_deed_that_is_refused(self):
        looker = Looker(self.top, p("/a"))
        self.meddle()
        self.looks(looker, ("drop", p("/a")), ("refused", "NotEmpty"), "text /a/b/f", "gone /a/g", "made /a/n")
        self.looks(looker, ("drop", p("/a")), ("refused", "NotEmpty"))
        self.assertEqual(looker.deeds_done(), [])

    def test_told_by_a_deed_that_only_tells(self):
        looker = Looker(self.top, p("/a"))
        self.top.hold(p("/f"))
        self.meddle()
        self.looks(looker, ("count_by", 1), ("done", 1), "text /a/b/f", "gone /a/g", "made /a/n")

    def test_told_by_looking_again(self):
        looker = Looker(self.top, p("/a"))
        self.meddle()
        self.assertEqual(looker.looked_again(), told("text /a/b/f", "gone /a/g", "made /a/n"))
        self.assertEqual(looker.looked_again(), [])
        self.assertEqual(looker.deeds_done(), [])

    def test_what_came_and_went_between_is_not_told(self):
        looker = Looker(self.top, ())
        self.top.make_folder(p("/n"))
        self.top.drop(p("/n"))
        self.top.write(p("/f"), "t")
        self.top.write(p("/f"), "top")
        self.assertEqual(looker.looked_again(), [])

    def test_what_was_done_ahead_of_the_looker_is_not_told(self):
        self.meddle()
        looker = Looker(self.top, ())
        self.assertEqual(looker.looked_again(), [])
        self.looks(looker, ("make_file", p("/x"), "top"), DONE, "made /x")

    def test_a_look_tells_against_the_last_one_not_the_first(self):
        looker = Looker(self.top, p("/n"))
        self.looks(looker, ("make_folder", p("/n")), DONE, "made /n")
        self.looks(looker, ("drop", p("/n")), DONE, "gone /n")
        self.looks(looker, ("make_file", p("/n"), ""), DONE, "made /n")
        self.assertEqual(looker.looked_again(), [])


class SeveralLookers(LookerTest):
    def test_each_by_itself(self):
        one, two, three = Looker(self.top, ()), Looker(self.top, p("/a")), Looker(self.top, p("/a/b/f"))
        self.looks(one, ("write", p("/a/b/f"), "one"), DONE, "text /a/b/f")
        self.looks(two, ("drop", p("/a/g")), DONE, "text /a/b/f", "gone /a/g")
        self.looks(three, ("drop", p("/q")), ("refused", "NoThing"), "text /a/b/f")
        self.assertEqual(two.looked_again(), [])
        self.looks(three, ("drop", p("/a/b/f")), DONE, "gone /a/b/f")
        self.assertEqual(one.looked_again(), told("gone /a/b/f", "gone /a/g", "first /c/g"))
        self.assertEqual(two.all_heard(), told("text /a/b/f", "gone /a/g"))
        self.assertEqual(two.looked_again(), told("gone /a/b/f"))
        self.assertEqual(one.deeds_done(), [("write", p("/a/b/f"), "one")])
        self.assertEqual(two.deeds_done(), [("drop", p("/a/g"))])
        self.assertEqual(three.deeds_done(), [("drop", p("/a/b/f"))])

    def test_two_at_one_path(self):
        one, two = Looker(self.top, p("/e")), Looker(self.top, p("/e"))
        self.looks(one, ("make_folder", p("/e/n")), DONE, "made /e/n")
        self.looks(two, ("make_folder", p("/e/m")), DONE, "made /e/m", "made /e/n")
        self.assertEqual(one.looked_again(), told("made /e/m"))
        self.assertEqual((one.looked_again(), two.looked_again()), ([], []))

    def test_one_made_between(self):
        one = Looker(self.top, ())
        one.looked_at(("drop", p("/e")))
        two = Looker(self.top, ())
        self.looks(two, ("drop", p("/x")), DONE, "gone /x")
        self.assertEqual(one.all_heard(), told("gone /e"))

    def test_handles_are_the_tops(self):
        one, two = Looker(self.top, ()), Looker(self.top, ())
        self.looks(one, ("hold", p("/f")), ("done", 1))
        self.looks(two, ("hold", p("/f")), ("done", 2))
        self.looks(two, ("write_by", 1, "by one's"), DONE, "text /f", "text /x")
        self.assertEqual(self.top.handles(), [1, 2])

    def test_of_two_tops_over_one_list(self):
        other = Top([BASE], PLENTY)
        one, two = Looker(self.top, ()), Looker(other, ())
        self.looks(one, ("drop", p("/e")), DONE, "gone /e")
        self.assertEqual(two.looked_again(), [])
        self.assertEqual(unlike(other, self.top), told("gone /e"))


class Heard(LookerTest):
    def test_one_behind_the_other(self):
        looker = Looker(self.top, ())
        looker.looked_at(("make_folder", p("/n")))
        self.top.drop(p("/e"))
        looker.looked_again()
        looker.looked_at(("drop", p("/q")))
        looker.looked_at(("drop", p("/n")))
        looker.looked_at(("make_folder", p("/n")))
        self.top.write(p("/a/b/f"), "t")
        looker.looked_at(("drop", p("/q")))
        self.assertEqual(looker.all_heard(), told("made /n", "gone /e", "gone /n", "made /n", "text /a/b/f"))

    def test_not_sorted_and_each_as_often_as_it_was_told(self):
        looker = Looker(self.top, p("/x"))
        for text in ("b", "a", "b"):
            looker.looked_at(("write", p("/x"), text))
        self.assertEqual(looker.all_heard(), told("text /x", "text /x", "text /x"))

    def test_asking_looks_not(self):
        looker = Looker(self.top, ())
        self.top.drop(p("/e"))
        self.assertEqual((looker.all_heard(), looker.deeds_done()), ([], []))
        self.assertEqual(looker.looked_again(), told("gone /e"))


class DeedsDone(LookerTest):
    def test_in_order_as_they_were_handed_in_without_the_refused(self):
        looker = Looker(Top([BASE], 12), p("/q"))
        deeds = [("hold", p("/f")), ("read_by", 1), ("drop", p("/a")), ("put_by", 1, 0, "T"), ("count_by", 1),
                 ("write", p("/x"), "t" * 12), ("count_by", 2), ("link", p("/f"), p("/n")), ("close", 1), ("close", 1),
                 ("read_by", 1), ("drop", p("/n")), ("swap", p("/f"), p("/f"))]
        answers = [looker.looked_at(deed)[0] for deed in deeds]
        self.assertEqual([answer[1] for answer in answers if answer[0] == "refused"],
                         ["NotEmpty", "NoRoom", "NoHandle", "NoHandle", "NoHandle"])
        self.assertEqual(looker.deeds_done(), [deed for deed, answer in zip(deeds, answers) if answer[0] == "done"])

    def test_of_another_path_too(self):
        looker = Looker(self.top, p("/a"))
        self.looks(looker, ("drop", p("/e")), DONE)
        self.assertEqual(looker.deeds_done(), [("drop", p("/e"))])

    def test_the_same_deed_twice(self):
        looker = Looker(self.top, ())
        for turn in range(2):
            looker.looked_at(("write", p("/f"), "t"))
        self.assertEqual(looker.deeds_done(), [("write", p("/f"), "t")] * 2)

    def test_handed_in_again_they_do_the_same(self):
        looker = Looker(self.top, ())
        for deed in (("make_folder", p("/n")), ("hold", p("/x")), ("drop", p("/n/m")), ("name_by", 1, p("/n/m")),
                     ("swap", p("/a"), p("/n")), ("cut_by", 1, 2), ("close", 1)):
            looker.looked_at(deed)
        again = Looker(Top([BASE], PLENTY), ())
        for deed in looker.deeds_done():
            again.looked_at(deed)
        self.assertEqual(again.all_heard(), looker.all_heard())
        self.assertEqual(unlike(again.top, self.top), [])


class AskersOwn(LookerTest):
    def test_told_lists_changed_change_nothing(self):
        looker = Looker(self.top, ())
        for rows in (looker.looked_at(("drop", p("/e")))[1], looker.all_heard(), looker.deeds_done(),
                     looker.looked_again()):
            rows.append(("made", p("/q")))
            rows.reverse()
        self.assertEqual(looker.all_heard(), told("gone /e"))
        self.assertEqual(looker.deeds_done(), [("drop", p("/e"))])
        self.looks(looker, ("make_folder", p("/e")), DONE, "made /e")

    def test_no_two_are_one_and_the_same(self):
        looker = Looker(self.top, ())
        lists = [looker.looked_at(("drop", p("/e")))[1], looker.looked_again(), looker.looked_again(),
                 looker.all_heard(), looker.all_heard(), looker.deeds_done(), looker.deeds_done()]
        self.assertEqual(len({id(rows) for rows in lists}), len(lists))

    def test_nothing_done_later_changes_them(self):
        looker = Looker(self.top, ())
        rows = looker.looked_at(("drop", p("/e")))[1]
        heard, deeds = looker.all_heard(), looker.deeds_done()
        looker.looked_at(("drop", p("/x")))
        self.assertEqual((rows, heard, deeds), (told("gone /e"), told("gone /e"), [("drop", p("/e"))]))

    def test_looking_changes_nothing(self):
        self.top.hold(p("/f"))
        before = state_of(self.top), self.top.told_layer()
        looker = Looker(self.top, p("/a"))
        looker.looked_again()
        looker.all_heard()
        looker.deeds_done()
        looker.looked_at(("drop", ()))
        self.assertEqual((state_of(self.top), self.top.told_layer()), before)


class ByChance(LookerTest):
    def check(self, seed):
        dice = Dice(seed)
        layers = some_layers(dice, 1 + dice.below(3))
        top, self.model = Top(layers, PLENTY), TopModel(layers)
        watches = [Watch(top, self.model, self.a_path(dice)) for turn in range(1 + dice.below(3))]
        for turn in range(50):
            watch, deed = dice.one_of(watches), a_deed(dice, self.model)
            if dice.below(4) == 0:
                self.assertEqual(done(top, deed), self.model.done(deed))
            elif dice.below(6) == 0:
                self.assertEqual(watch.looker.looked_again(), watch.expected(self.model))
            else:
                answer = self.model.done(deed)
                watch.deeds += [deed] if answer[0] == "done" else []
                self.assertEqual(watch.looker.looked_at(deed), (answer, watch.expected(self.model)))
        for watch in watches:
            self.assertEqual((watch.looker.all_heard(), watch.looker.deeds_done()), (watch.heard, watch.deeds))
        return sum(len(watch.heard) for watch in watches)

    def a_path(self, dice):
        return dice.one_of([(), dice.one_of(sorted(self.model.things)), p("/" + dice.one_of("abcefnx"))])

    def test_several_lookers_against_the_model(self):
        self.assertGreater(sum(self.check(seed) for seed in range(150)), 1000)


class Watch:
    """A looker, and what it should tell by whole models kept from its last look."""

    def __init__(self, top, model, path):
        self.looker, self.path, self.seen = Looker(top, path), path, copy.deepcopy(model)
        self.heard, self.deeds = [], []

    def expected(self, model):
        rows = [row for row in unlike_models(self.seen, model) if row[1][:len(self.path)] == self.path]
        self.seen = copy.deepcopy(model)
        self.heard += rows
        return rows


if __name__ == "__main__":
    unittest.main()
