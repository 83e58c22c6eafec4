"""A desk: a house that lines change and ask of, with deeds undone and done again."""

from stairrooms.backward import backward
from stairrooms.ends import fate
from stairrooms.errors import NoDeed, NoLine, NoPlace, NoWay, TooGreat
from stairrooms.forward import forward
from stairrooms.houses import (
    GREATEST_MANY,
    GREATEST_WAYS,
    is_deed,
    is_room,
    is_sign,
    refuse_bad_places,
    turned_about,
)
from stairrooms.texts import is_number_word, shown_house, shown_stair
from stairrooms.tops import greatest
from stairrooms.walks import shortest
from stairrooms.words import first_word

# What stands behind the first word of each line.
LINES = {
    "rooms": ("many",),
    "way": ("number", "deed", "number", "sign"),
    "close": ("number", "deed", "number", "sign"),
    "turn": (),
    "undo": (),
    "redo": (),
    "show": (),
    "reach": ("number", "number", "number", "number"),
    "forward": ("number", "number", "number"),
    "backward": ("number", "number", "number"),
    "most": ("number", "number"),
    "fate": ("number", "number"),
    "word": ("number", "number"),
}


def is_word_of(kind, word):
    if kind == "deed":
        return is_deed(word)
    if kind == "sign":
        return is_sign(word)
    if kind == "many":
        return is_number_word(word) and 1 <= int(word) <= GREATEST_MANY
    return is_number_word(word)


def is_line(words):
    if words[0] not in LINES or len(LINES[words[0]]) != len(words) - 1:
        return False
    return all([is_word_of(kind, word) for kind, word in zip(LINES[words[0]], words[1:])])


def value_of(word):
    return int(word) if is_number_word(word) else word


def rooms_deed(house, parts):
    return (parts[0], ())


def way_deed(house, parts):
    way = tuple(parts)
    if not is_room(way[0], house[0]) or not is_room(way[2], house[0]):
        raise NoPlace("this is no room of the house")
    if way in house[1]:
        raise NoWay("there is the same way already")
    if len(house[1]) >= GREATEST_WAYS:
        raise TooGreat(f"a house has at most {GREATEST_WAYS} ways")
    return (house[0], house[1] + (way,))


def close_deed(house, parts):
    way = tuple(parts)
    if way not in house[1]:
        raise NoWay("there is no such way")
    return (house[0], tuple([other for other in house[1] if other != way]))


def turn_deed(house, parts):
    return turned_about(house)


def show_ask(house, parts):
    return shown_house(house)


def reach_ask(house, parts):
    walk = shortest(house, (parts[0], parts[1]), (parts[2], parts[3]))
    return "never" if walk is None else str(len(walk))


# The room that is asked of is looked at together with the place, since NoPlace of either
# goes ahead of TooGreat.
def forward_ask(house, parts):
    refuse_bad_places(house, [(parts[0], parts[1]), (parts[2], 0)])
    return shown_stair(forward(house, (parts[0], parts[1]))[parts[2]])


def backward_ask(house, parts):
    refuse_bad_places(house, [(parts[0], parts[1]), (parts[2], 0)])
    return shown_stair(backward(house, (parts[0], parts[1]))[parts[2]])


def most_ask(house, parts):
    told = greatest(house, (parts[0], parts[1]))
    return str(told[1]) if told[0] == "most" else "unbounded"


def fate_ask(house, parts):
    told = fate(house, (parts[0], parts[1]))
    return str(told[1]) if told[0] == "ends" else "endless"


def word_ask(house, parts):
    word = first_word(house, parts[0], parts[1])
    return "none" if word is None else "/" + word


DEEDS = {"rooms": rooms_deed, "way": way_deed, "close": close_deed, "turn": turn_deed}
ASKS = {
    "show": show_ask,
    "reach": reach_ask,
    "forward": forward_ask,
    "backward": backward_ask,
    "most": most_ask,
    "fate": fate_ask,
    "word": word_ask,
}


class Desk:
    # past are the houses ahead of each deed that is not undone, undone those behind each that is
    def __init__(self):
        self.house = (1, ())
        self.past = []
        self.undone = []

    def tell(self, line):
        words = line.split(" ")
        if not is_line(words):
            raise NoLine("this is no line that a desk knows")
        parts = [value_of(word) for word in words[1:]]
        if words[0] in ASKS:
            return ASKS[words[0]](self.house, parts)
        if words[0] == "undo":
            self.undo()
        elif words[0] == "redo":
            self.redo()
        else:
            self.do(DEEDS[words[0]](self.house, parts))
        return shown_house(self.house)

    def do(self, house):
        self.past.append(self.house)
        self.house = house
        self.undone = []

    def undo(self):
        if not self.past:
            raise NoDeed("there is no deed to undo")
        self.undone.append(self.house)
        self.house = self.past.pop()

    def redo(self):
        if not self.undone:
            raise NoDeed("there is no deed to do again")
        self.past.append(self.house)
        self.house = self.undone.pop()
