"""Houses and stairs written as texts, and read of texts that are just so written."""

from stairrooms.errors import NoText
from stairrooms.houses import is_house, refuse_no_house
from stairrooms.stairs import is_stair, refuse_bad_stair

FIGURES = "0123456789"
MOST_FIGURES = 6


def way_text(way):
    return " ".join([str(way[0]), way[1], str(way[2]), way[3]])


def shown_house(house):
    refuse_no_house(house)
    return str(house[0]) + ":" + ",".join([" " + way_text(way) for way in house[1]])


def row_words(row):
    return [str(number) for number in row]


def shown_stair(stair):
    refuse_bad_stair(stair)
    return " ".join(row_words(stair[:2]) + [":"] + row_words(stair[2]) + [":"] + row_words(stair[3]))


# The figures are looked at one by one: int alone would let by signs, blanks and a 0 ahead.
def is_number_word(word):
    if len(word) < 1 or len(word) > MOST_FIGURES or not all([sign in FIGURES for sign in word]):
        return False
    return word == "0" or word[0] != "0"


def read_number(word):
    if not is_number_word(word):
        raise NoText("a number is not written as one, or has too many figures")
    return int(word)


def read_row(words):
    return tuple([read_number(word) for word in words])


# A way stands behind a blank, so the first word of a split is empty.
def read_way(text):
    words = text.split(" ")
    if len(words) != 5 or words[0] != "":
        raise NoText("a way is not written as one")
    return (read_number(words[1]), words[2], read_number(words[3]), words[4])


def read_ways(text):
    if text == "":
        return ()
    return tuple([read_way(part) for part in text.split(",")])


def read_house(text):
    parts = text.split(":")
    if len(parts) != 2:
        raise NoText("a house is written with one colon")
    house = (read_number(parts[0]), read_ways(parts[1]))
    if not is_house(house):
        raise NoText("what is written is no house")
    return house


def read_stair(text):
    words = text.split(" ")
    if words.count(":") != 2 or words.index(":") != 2:
        raise NoText("a stair is written with two colons, the first one behind base and step")
    second = words.index(":", 3)
    once = read_row(words[3:second])
    again = read_row(words[second + 1:])
    stair = (read_number(words[0]), read_number(words[1]), once, again)
    if not is_stair(stair):
        raise NoText("what is written is no stair")
    return stair
