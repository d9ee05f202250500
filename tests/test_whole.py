"""What holds over the whole program: points 1 to 3, asked of every function that tells a list or asks layers."""

import copy
import unittest

from overfold.deeds import deeds_for, replayed
from overfold.doing import copied, done
from overfold.holding import held, held_by, shared, told_size
from overfold.layers import layer_text, read_layer
from overfold.leasts import least
from overfold.lookers import Looker
from overfold.pressing import pressed, pressed_all
from overfold.stories import run
from overfold.taking import kept_part, lost, taken
from overfold.tops import Top, top_of
from overfold.unlike import unlike
from overfold.views import misfit, shown, traced
from layer_dice import layers_of_both
from layer_help import BASE, EMPTY, FitTest, lay
from shelf_help import p, sample, state_of
from shelf_model import Dice, a_deed
from top_model import TopModel

PLENTY = 10 ** 6
OVER = lay("gone /a", "folder /n over /a", "file /n/k 0", "data of /f =new")
LAST = lay("folder /e over /e", "file /e/z 0", "gone /x", "data =z")
BAD = lay("folder /m over /q")
ROW = [("drop", p("/e")), ("hold", p("/f")), ("read_by", 1), ("drop", p("/q"))]
STORY = "layer\nfolder /a alone\nend\nroom 5\nnames /\ndrop /a\nwalk\nseal\nheld /"


def held_top():
    top = Top([BASE, OVER], PLENTY)
    top.hold(p("/f"))
    top.drop(p("/e"))
    return top


def a_looker():
    looker = Looker(sample(), p("/a"))
    looker.looked_at(("drop", p("/a/b/f")))
    return looker


def all_lists(shelf, top, looker, layers):
    """Each question of the whole program that tells a list, as the list."""
    return [
        shelf.names_in(()), shelf.names_in(p("/a")), shelf.handles(), shelf.walked(), top.names_in(()), top.handles(),
        top.walked(), traced(layers), held_by(layers, ()), held_by(layers, p("/n")), held(layers), pressed(layers, 0),
        pressed(layers, 1), pressed_all(layers), pressed_all([]), lost(layers, LAST, [BASE]), lost(layers, OVER, []),
        deeds_for(layers, EMPTY), deeds_for(layers[:2], LAST), replayed(layers, 9, ROW)[1], replayed(layers, 9, [])[1],
        unlike(shelf, top), unlike(top, top), looker.all_heard(), looker.deeds_done(), looker.looked_again(),
        looker.looked_at(("drop", ()))[1], run(STORY), run("room 1")]


class AskersOwn(unittest.TestCase):
    def setUp(self):
        self.shelf, self.top, self.looker = sample(), held_top(), a_looker()
        self.shelf.hold(p("/f"))
        self.layers = [BASE, OVER, LAST]

    def asked(self):
        return all_lists(self.shelf, self.top, self.looker, self.layers)

    def test_all_are_lists(self):
        for told in self.asked():
            self.assertIs(type(told), list)

    def test_the_same_question_is_told_the_same_by_another_list(self):
        first, second = self.asked(), self.asked()
        self.assertEqual(first, second)
        self.assertEqual(len({id(told) for told in first + second}), len(first + second))

    def test_what_is_told_holds_no_list_within(self):
        """So nobody can change a part of it that the program, or another answer, still has."""
        for told in self.asked():
            for part in told:
                self.assertIsInstance(part, (str, int, tuple))
                self.assertNotIn("[", repr(part))

    def test_told_lists_changed_change_nothing(self):
        kept, states = copy.deepcopy(self.asked()), (state_of(self.shelf), state_of(self.top))
        for told in self.asked():
            told.reverse()
            told.append("more")
        self.assertEqual(self.asked(), kept)
        self.assertEqual((state_of(self.shelf), state_of(self.top)), states)
        self.assertEqual(self.layers, [BASE, OVER, LAST])

    def test_nothing_done_later_changes_what_was_told(self):
        told = self.asked()
        kept = copy.deepcopy(told)
        for shelf in (self.shelf, self.top):
            shelf.make_folder(p("/zz"))
            shelf.write(p("/f"), "later")
            shelf.drop(p("/x"))
            shelf.close(1)
        self.looker.looked_at(("make_folder", p("/a/zz")))
        self.layers.pop()
        self.assertEqual(told, kept)

    def test_pressed_lists_are_others_than_those_handed_in(self):
        for layers in ([BASE], [EMPTY, EMPTY], []):
            told = pressed_all(layers)
            told.append(EMPTY)
            self.assertEqual(layers, [BASE] if BASE in layers else [EMPTY] * len(layers))


class NotChanged(unittest.TestCase):
    def test_nothing_that_is_handed_in(self):
        layers, others, row = [BASE, OVER], [BASE], list(ROW)
        for call in (lambda: misfit(layers, LAST), lambda: shown(layers), lambda: traced(layers),
                     lambda: least(layers, LAST), lambda: Top(layers, 9), lambda: top_of(layers, LAST, 99),
                     lambda: held_by(layers, p("/f")), lambda: held(layers), lambda: shared(layers, others),
                     lambda: told_size(OVER), lambda: pressed(layers, 0), lambda: pressed_all(layers),
                     lambda: taken(layers, LAST, others), lambda: lost(layers, LAST, others),
                     lambda: kept_part(layers, OVER, others), lambda: deeds_for(layers, LAST),
                     lambda: replayed(layers, 9, row)):
            call()
            self.assertEqual((layers, others, row), ([BASE, OVER], [BASE], ROW))

    def test_shelves_by_being_asked(self):
        one, other = sample(), held_top()
        before = state_of(one), state_of(other), other.told_layer()
        for call in (lambda: copied(one), lambda: copied(other), lambda: unlike(one, other), lambda: unlike(other, one),
                     lambda: Looker(one, ()).looked_again(), lambda: Looker(other, p("/n")).all_heard(),
                     other.told_layer, other.used_room, other.free_room, other.handles):
            call()
            self.assertEqual((state_of(one), state_of(other), other.told_layer()), before)

    def test_objects_keep_lists_of_their_own(self):
        layers, row = [BASE, OVER], list(ROW)
        top, twin = Top(layers, PLENTY), replayed(layers, PLENTY, row)[0]
        before = state_of(top), state_of(twin), twin.told_layer()
        layers.clear()
        row.clear()
        self.assertEqual((state_of(top), state_of(twin), twin.told_layer()), before)


class NoFitAhead(FitTest):
    """Layers that don't fit are told ahead of all else, and by the number of the first that doesn't."""

    CALLS = [
        lambda layers: misfit(layers, BAD), lambda layers: shown(layers), lambda layers: traced(layers),
        lambda layers: least(layers, BAD), lambda layers: Top(layers, 0), lambda layers: top_of(layers, LAST, 0),
        lambda layers: top_of(layers, BAD, 0), lambda layers: held_by(layers, p("/no")),
        lambda layers: held_by(layers, ()), lambda layers: held(layers), lambda layers: pressed(layers, 0),
        lambda layers: pressed_all(layers), lambda layers: taken([], BAD, layers), lambda layers: lost([], BAD, layers),
        lambda layers: kept_part([], BAD, layers), lambda layers: deeds_for(layers, BAD),
        lambda layers: replayed(layers, 0, [("drop", p("/no"))])]

    def test_each_that_asks_layers(self):
        for call in self.CALLS:
            for number, layers in ((0, [BAD, BASE]), (1, [BASE, BAD]), (1, [BASE, BAD, BAD, EMPTY]),
                                   (2, [BASE, OVER, OVER, BAD]), (5, [BASE] + [EMPTY] * 4 + [BAD])):
                self.no_fit(number, call, layers)

    def test_those_that_ask_nothing_of_them(self):
        self.assertEqual(shared([BAD, BASE], [BAD, BASE]), 2)
        self.assertEqual(told_size(BAD), 1)
        for call in (taken, lost, kept_part):
            call([BAD, BAD], LAST, [BASE])


class HandedInAgain(unittest.TestCase):
    def test_what_was_told(self):
        for seed in range(40):
            dice = Dice(seed)
            layers = layers_of_both(dice, 1 + dice.below(4))
            top, model = Top(layers, PLENTY), TopModel(layers)
            for turn in range(15):
                deed = a_deed(dice, model)
                model.done(deed)
                done(top, deed)
            if model.is_within_bounds():
                self.again(layers, top)

    def again(self, layers, top):
        layer = top.told_layer()
        self.assertEqual(read_layer(layer_text(layer)), layer)
        self.assertEqual(least(layers, layer), layer)
        self.assertEqual(taken(layers, layer, layers), layer)
        self.assertEqual(kept_part(layers, layer, layers), layer)
        self.assertEqual(lost(layers, layer, layers), [])
        self.assertIsNone(misfit(layers, layer))
        self.assertEqual(unlike(shown(layers + [layer]), top), [])
        self.assertEqual(unlike(top_of(layers, layer, told_size(layer)), top), [])
        self.assertEqual(unlike(copied(top), top), [])
        self.assertEqual(unlike(shown(pressed_all(layers + [layer])), top), [])


class AsAPlainShelf(unittest.TestCase):
    def test_a_top_is_answered_as_one_shelf_copied_whole_at_the_start(self):
        for seed in range(40):
            dice = Dice(seed)
            layers = layers_of_both(dice, 1 + dice.below(4))
            top, shelf, model = Top(layers, PLENTY), copied(Top(layers, 0)), TopModel(layers)
            for turn in range(40):
                deed = a_deed(dice, model)
                model.done(deed)
                self.assertEqual(done(top, deed), done(shelf, deed), deed)
                self.assertEqual(unlike(shelf, top), [], deed)
            self.assertEqual(state_of(top), state_of(shelf))


class KindsOfNumbers(unittest.TestCase):
    def test_never_true_or_false(self):
        top = held_top()
        numbers = [top.count_of(p("/f")), top.count_by(1), top.used_room(), top.free_room(), top.hold(p("/f")),
                   held_by([BASE], p("/f")), shared([BASE], [BASE]), shared([], []), told_size(BAD), told_size(EMPTY),
                   read_layer("file /f 0\ndata =t")[0][0][2], top.handles()[0], held([BASE])[0][2]]
        self.assertEqual([type(number) for number in numbers], [int] * len(numbers))
        for answer in (top.same_file(p("/f"), p("/x")), top.same_file(p("/f"), p("/q")), top.same_file(p("/q"), ())):
            self.assertIs(type(answer), bool)


if __name__ == "__main__":
    unittest.main()
