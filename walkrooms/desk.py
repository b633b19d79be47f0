"""The desk: houses by names, each with a walk; it is told rows of words and answers with texts."""

from walkrooms.ends import ends_of
from walkrooms.errors import NoName, NoRow, NoStep
from walkrooms.least import least_table
from walkrooms.meeting import told_apart
from walkrooms.names import FIGURES, consists_of, is_name
from walkrooms.places import AROUND
from walkrooms.reading import read
from walkrooms.sameness import same
from walkrooms.steps import steps_of
from walkrooms.telling import told_kinds
from walkrooms.texts import shown
from walkrooms.walks import Walk

DONE = "ok"
NONE = "-"
MOST_FIGURES = 3


# Each of these answers a row, its words as they should be and the houses that it names at the desk.

def put_house(desk, name, text):
    """A house by its text, in the stead of one that stood there."""
    desk.walks[name] = Walk(read(text))
    return DONE


def put_like(desk, name, model):
    """The house of another name, with a walk that has done what that one has."""
    walk = Walk(desk.walks[model].house)
    for step in desk.walks[model].log():
        walk.do(step)
    desk.walks[name] = walk
    return DONE


def drop(desk, name):
    """Takes a house away."""
    desk.walks.pop(name)
    return DONE


def tell_names(desk):
    """All names, sorted."""
    return joined(" ", sorted(desk.walks))


def show(desk, name):
    """The stand of a walk, written."""
    return shown(desk.walks[name].stand()[1])


def tell_steps(desk, name):
    """The steps of a walk's stand."""
    return joined("; ", [step_written(step) for step in steps_of(desk.walks[name].stand())])


def do_step(desk, name, number):
    """Does the step of a number, of those of a walk's stand."""
    walk = desk.walks[name]
    steps = steps_of(walk.stand())
    if int(number) >= len(steps):
        raise NoStep(0)
    walk.do(steps[int(number)])
    return DONE


def undo_step(desk, name):
    """Undoes the last step of a walk."""
    desk.walks[name].undo()
    return DONE


def show_back(desk, name, number):
    """The stand behind the first steps of a walk's log, written."""
    return shown(desk.walks[name].behind(int(number))[1])


def tell_same(desk, one, other):
    """Whether the stands of two walks are the same."""
    return "yes" if same(desk.walks[one].stand(), desk.walks[other].stand()) else "no"


def tell_ends(desk, name):
    """How many stands a house comes to, how many of these are ends, and how many runs lead there."""
    many, ends, runs = ends_of(desk.walks[name].house)
    return f"{many} {len(ends)} {runs}"


def tell_entries(desk, name, place):
    """The entries of a place by the least table of a house."""
    holds, means = least_table(desk.walks[name].house)
    return joined(", ", [" ".join(entry) for entry in holds.get(place, [])])


def tell_apart(desk, name, a, b):
    """Whether rooms are kept apart in a house, or meet."""
    told = told_apart(desk.walks[name].house, a, b)
    if told[0] == "met":
        return f"met {len(told[1])}"
    return f"never {told[1]}" if told[0] == "never" else told[0]


def tell_kind(desk, name, place):
    """The group of a place by the told kinds of a house, and its rules."""
    groups, rules = told_kinds(desk.walks[name].house)
    if place not in groups:
        raise NoName(f"the house has no {place}")
    group = groups[place]
    walks, opened, goes, says = rules[group]
    words = [group, "walks" if walks else "stays", "opened" if opened else "shut", joined(",", goes)]
    return " ".join([*words, NONE if says is None else says])


def step_written(step):
    """A step as its word, its path and its other places."""
    path = joined(".", [str(place) for place in step[1]])
    return " ".join([step[0], path, *[str(place) for place in step[2:]]])


def joined(between, texts):
    """Texts with something between, or the sign for none."""
    return between.join(texts) if texts else NONE


# What the words behind a row's first one have to be; by a kept name a house has to stand at the desk, a place is a name
# or what is around.
FORMS = {
    "house": ("name", "text"), "like": ("name", "kept"), "drop": ("kept",), "names": (),
    "show": ("kept",), "steps": ("kept",), "do": ("kept", "number"), "undo": ("kept",), "back": ("kept", "number"),
    "same": ("kept", "kept"), "ends": ("kept",), "lies": ("kept", "place"), "apart": ("kept", "name", "name"),
    "kind": ("kept", "place"),
}
ANSWERS = {
    "house": put_house, "like": put_like, "drop": drop, "names": tell_names,
    "show": show, "steps": tell_steps, "do": do_step, "undo": undo_step, "back": show_back,
    "same": tell_same, "ends": tell_ends, "lies": tell_entries, "apart": tell_apart,
    "kind": tell_kind,
}


class Desk:
    """Keeps houses by names, each with a walk from it."""

    def __init__(self):
        self.walks = {}

    def say(self, row):
        """The answer to a row, of anything; a refusal changes nothing."""
        if not isinstance(row, str):
            raise NoRow("a row is a text")
        first, *words = words_of(row)
        if not are_words_right(first, words):
            raise NoRow("no row is told so")
        for word, kind in zip(words, FORMS[first]):
            if kind == "kept" and word not in self.walks:
                raise NoName(f"no house stands by the name {word}")
        answer = ANSWERS[first]
        return answer(self, *words)


def words_of(row):
    """The words of a row; all behind the name of a house to come is one, whatever blanks stand in it."""
    return row.split(" ", 2) if row.startswith("house ") else row.split(" ")


def are_words_right(first, words):
    """Whether a row begins so, and its other words are as many and of the kinds that it needs."""
    if first not in FORMS or len(words) != len(FORMS[first]):
        return False
    return all(is_right_word(word, kind) for word, kind in zip(words, FORMS[first]))


def is_right_word(word, kind):
    """Whether a word is of a kind; the text of a house is looked at where it is read."""
    if kind == "text":
        return True
    if kind == "number":
        return is_number(word)
    return is_name(word) or kind == "place" and word == AROUND


def is_number(word):
    """Whether a word is a number in few figures, the first no 0 but in 0 itself."""
    if not consists_of(word, FIGURES) or len(word) > MOST_FIGURES:
        return False
    return word == "0" or word[0] != "0"
