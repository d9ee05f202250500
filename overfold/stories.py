"""Stories: layers, a top over them, and deeds and asks one behind the other, each with its answer."""

from overfold.doing import done
from overfold.errors import NoFit, NoThing, WrongKind
from overfold.holding import held_by
from overfold.layers import layer_text
from overfold.paths import path_text
from overfold.pressing import pressed
from overfold.storyrows import read_story
from overfold.tops import Top


def run(text):
    rows = read_story(text)
    story = Story(rows[0], rows[1])
    answers = []
    for step in rows[2]:
        answers.append(answer_to(story, step))
    return answers


# The layers beneath the top are kept beside it: they are pressed and asked by themselves.
class Story:
    def __init__(self, layers, room):
        self.layers = layers
        self.top = Top(layers, room)


def kind_answer(story, step):
    kind = story.top.kind_of(step[1])
    return "none" if kind is None else kind


def text_answer(story, step):
    return "=" + story.top.text_of(step[1])


def names_answer(story, step):
    return " ".join(story.top.names_in(step[1]))


def count_answer(story, step):
    return str(story.top.count_of(step[1]))


def same_answer(story, step):
    return "yes" if story.top.same_file(step[1], step[2]) else "no"


def walk_answer(story, step):
    return " ".join([walk_word(row) for row in story.top.walked()])


def walk_word(row):
    where = path_text(row[0])
    return where if row[1] == "folder" else where + "=" + path_text(row[3])


def used_answer(story, step):
    return str(story.top.used_room())


def free_answer(story, step):
    return str(story.top.free_room())


def layer_answer(story, step):
    return layer_text(story.top.told_layer()).replace("\n", "; ")


def held_answer(story, step):
    told = held_by(story.layers + [story.top.told_layer()], step[1])
    return " ".join([str(number) for number in told]) if isinstance(told, list) else str(told)


# The top knows what the layers show, not the layers: so it goes on as it is.
def press_answer(story, step):
    # Behind a seal that was refused fewer layers are there than the rows count.
    if step[1] + 1 >= len(story.layers):
        return "refused NoFit"
    story.layers = pressed(story.layers, step[1])
    return "done"


def seal_answer(story, step):
    layers = story.layers + [story.top.told_layer()]
    story.top = Top(layers, story.top.room)
    story.layers = layers
    return "done"


ASKS = {
    "kind": kind_answer,
    "text": text_answer,
    "names": names_answer,
    "count": count_answer,
    "same": same_answer,
    "walk": walk_answer,
    "used": used_answer,
    "free": free_answer,
    "layer": layer_answer,
    "held": held_answer,
    "press": press_answer,
    "seal": seal_answer,
}


def answer_to(story, step):
    if step[0] not in ASKS:
        return deed_answer(step[0], done(story.top, step))
    try:
        return ASKS[step[0]](story, step)
    except NoThing:
        return "refused NoThing"
    except WrongKind:
        return "refused WrongKind"
    except NoFit:
        # A top of more paths than a shelf may have tells a layer that doesn't fit.
        return "refused NoFit"


def deed_answer(word, told):
    if told[0] == "refused":
        return "refused " + told[1]
    if word == "hold":
        return "done " + str(told[1])
    if word == "read_by":
        return "=" + told[1]
    return str(told[1]) if word == "count_by" else "done"
