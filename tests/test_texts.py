import re
import unittest

from stairrooms.errors import NoStair, NoText, TooGreat
from stairrooms.houses import is_house
from stairrooms.stairs import is_stair
from stairrooms.texts import read_house, read_stair, shown_house, shown_stair
from tests.helper import (
    ALL, DEEDS, HOUSES, JUST_LET_BY, LONE, NO_STAIRS, NOTHING, PLAIN, SIGNS, TOO_GREAT, Case, all_stairs,
    full_house, thrown_houses,
)

NUMBER = "(?:0|[1-9][0-9]{0,5})"
WAY_FORM = f" {NUMBER} (?:up|down|stay|zero) {NUMBER} [a-z]"
HOUSE_FORM = re.compile(f"{NUMBER}:(?:{WAY_FORM}(?:,{WAY_FORM})*)?")
STAIR_FORM = re.compile(f"{NUMBER} {NUMBER} :(?: {NUMBER})* :(?: {NUMBER})*")

BEYOND = [
    ("3001 1 : :", (3001, 1, (), ())),
    ("3001 1 : 0 3000 : 3001", (3001, 1, (0, 3000), (3001,))),
    ("0 841 : : 0 840", (0, 841, (), (0, 840))),
    ("6000 1 : : 6000", (6000, 1, (), (6000,))),
    ("100000 100000 : 99999 : 199999", (100000, 100000, (99999,), (199999,))),
    ("999999 999999 : 0 999998 : 999999", (999999, 999999, (0, 999998), (999999,))),
]

NO_STAIR_TEXTS = [
    "", " ", ":", "::", ": :", " : : ", "0", "0 1", "0 1 :", "0 1 ::", "0 1 : ", "0 : :", ": : 0 1", "1 : : 0",
    # blanks
    " 0 1 : :", "0 1 : : ", "0  1 : :", "0 1  : :", "0 1 :  :", "0 1 : :  0", "0 1 : : 0 ", " 0 1 : : 0",
    "3 2 : 0  1 : 4", "01 : : 0", "0 1: : 0", "0 1 :: 0", "0 1 : :0", "3 2 :0 : 4", "3 2 : 0: 4", "0 1 : : 0\n",
    # commas and colons
    "0, 1 : : 0", "0,1 : : 0", "3 2 : 0, 1 : 4", "3 2 : 0,1 : 4", "0 1 , , 0", "0 1 : : : 0", "0 1 : : 0 :",
    ": 0 1 : : 0", "0 : 1 : : 0", "0 : 1 :", "0 1 0 : : 0", "0 1 : 0", "0 1 0", "0:1:0:0", "3 2 : : 4 :",
    # numbers
    "00 1 : :", "0 01 : :", "3 2 : 00 : 4", "3 2 : 01 : 4", "3 2 : : 04", "03 2 : : 4", "000000 1 : :",
    "+0 1 : :", "-0 1 : :", "-1 1 : :", "0 -1 : :", "0 +1 : :", "1_0 1 : :", "0 1_0 : :", "0x1 1 : :", "1.0 1 : :",
    "1e1 1 : :", "a 1 : :", "0 a : :", "0 1 : a :", "0 1 : : a", "0 1 : : ()", "(0, 1, (), (0,))", "0 1 : : None",
    # seven figures
    "1000000 1 : :", "0 1000000 : :", "9999999 1 : :", "999999 2 : : 1000000", "999999 2 : : 999999 1000000",
    "0000001 1 : :", "1" * 60 + " 1 : :", "1" * 3990 + " 1 : :",
    # well written, and no stair
    "0 0 : :", "0 0 : : 0", "3 2 : 3 :", "3 2 : : 2", "3 2 : : 5", "3 2 : 1 0 :", "3 2 : : 4 3", "3 2 : 1 1 :",
    "3 2 : : 4 4", "0 1 : 0 :", "0 1 : 0 : 0", "3001 1 : 3001 :", "0 841 : : 841",
    # houses
    "1:", "2: 0 up 1 a, 1 zero 0 b",
]

NO_HOUSE_TEXTS = [
    "", " ", ":", "::", ": ", "2", "2 ", "2,", "up",
    # blanks
    " 2:", "2 :", "2: ", "2:  ", "2:0 up 1 a", "2:  0 up 1 a", "2: 0 up 1 a ", "2: 0  up 1 a", "2: 0 up  1 a",
    "2: 0 up 1  a", "2: 0up 1 a", "2: 0 up1 a", "2: 0 up 1a", "2: 0 up 1 a,1 zero 0 b", "2: 0 up 1 a,  1 zero 0 b",
    "2: 0 up 1 a , 1 zero 0 b", "2: 0 up 1 a 1 zero 0 b", " 2: 0 up 1 a", "2 : 0 up 1 a", "2:\n", "2: 0 up 1 a\n",
    # commas and colons
    "2:,", "2: ,", "2:, 0 up 1 a", "2: , 0 up 1 a", "2: 0 up 1 a,", "2: 0 up 1 a, ", "2: 0 up 1 a,, 1 zero 0 b",
    "2: 0 up 1 a, , 1 zero 0 b", "2: 0, up 1 a", "2, 0 up 1 a", "2:: 0 up 1 a", "2: : 0 up 1 a", "2: 0 up 1 a:",
    "2: 0: up 1 a", "2: 0 up 1 :", "2: 0 up 1 a; 1 zero 0 b", "2 0 up 1 a", "2: 0 up 1 ,",
    # numbers
    "02:", "002:", "+2:", "-2:", "2_:", "1_0:", "a:", "1.0:", "2: 00 up 1 a", "2: 0 up 01 a", "2: +0 up 1 a",
    "2: 0 up -1 a", "2: -0 up 1 a", "2: -1 up 0 a", "2: a up 0 a", "2: 0 up a a", "1000000:", "0000002:",
    "2: 0000000 up 1 a", "2: 0 up 1000000 a", "1" * 60 + ":", "1" * 3999 + ":",
    # parts more or less
    "2: 0", "2: 0 up", "2: 0 up 1", "2: up 1 a", "2: 0 1 a", "2: 0 up a", "2: 0 up 1 a b", "2: 0 0 up 1 a",
    "2: 0 up 1 a, 1 zero 0", "2: 0 up 1, 1 zero 0 b",
    # well written, and no house
    "0:", "13:", "999999:", "100:", "2: 2 up 0 a", "2: 0 up 2 a", "1: 0 up 999999 a", "2: 0 up 1 a, 0 up 1 a",
    "2: 0 up 1 a, 1 up 0 a, 0 up 1 a",
    # deeds and signs
    "2: 0 Up 1 a", "2: 0 UP 1 a", "2: 0 left 1 a", "2: 0 u 1 a", "2: 0 updown 1 a", "2: 0 up 1 A", "2: 0 up 1 ab",
    "2: 0 up 1 0", "2: 0 up 1 -", "2: 0 up 1 `", "2: 0 up 1 {", "2: 0 up 1 'a'",
    # stairs
    "0 1 : :", "3 2 : : 4", "4 1 : 3 :",
]


def plainly_written_house(house):
    text = f"{house[0]}:"
    for at, (room, deed, other, sign) in enumerate(house[1]):
        text += f"{',' if at else ''} {room} {deed} {other} {sign}"
    return text


def plainly_written_stair(stair):
    base, step, once, again = stair
    text = f"{base} {step} :"
    for number in once:
        text += f" {number}"
    text += " :"
    for number in again:
        text += f" {number}"
    return text


def plainly_read_house(text):
    """The house of a well written text, or None, by the form of the text alone."""
    if not HOUSE_FORM.fullmatch(text):
        return None
    ways = re.findall(r" (\d+) (\w+) (\d+) (\w)", text)
    house = (int(text.partition(":")[0]), tuple((int(p), deed, int(q), sign) for p, deed, q, sign in ways))
    return house if is_house(house) else None


def plainly_read_stair(text):
    if not STAIR_FORM.fullmatch(text):
        return None
    head, once, again = [tuple(map(int, part.split())) for part in text.split(":")]
    stair = head + (once, again)
    return stair if is_stair(stair) else None


def near(text, signs):
    """All texts that come of a text by one sign more, one less, another one, or two changed about."""
    texts = set()
    for at in range(len(text) + 1):
        for sign in signs:
            texts.add(text[:at] + sign + text[at:])
            texts.add(text[:at] + sign + text[at + 1:])
        texts.add(text[:at] + text[at + 1:])
        texts.add(text[:at] + text[at + 1:at + 2] + text[at:at + 1] + text[at + 2:])
    return sorted(texts)


class Reading(Case):
    def reads_as(self, read, text, thing):
        if thing is None:
            self.refused(NoText, read, text)
        else:
            self.assertEqual(read(text), thing)


class Houses(Reading):
    def test_the_texts_that_the_document_gives(self):
        self.assertEqual(shown_house(PLAIN), "2: 0 up 1 a, 1 zero 0 b")
        self.assertEqual(shown_house((2, ())), "2:")
        self.assertEqual(read_house("2: 0 up 1 a, 1 zero 0 b"), PLAIN)
        self.assertEqual(read_house("2:"), (2, ()))

    def test_written_and_read_again(self):
        for house in HOUSES + thrown_houses(11, 80):
            with self.subTest(house):
                text = shown_house(house)
                self.assertEqual(text, plainly_written_house(house))
                self.assertEqual(read_house(text), house)
                self.assertIs(is_house(read_house(text)), True)

    def test_all_numbers_of_rooms_without_ways(self):
        for many in range(1, 13):
            self.assertEqual(shown_house((many, ())), f"{many}:")
            self.assertEqual(read_house(f"{many}:"), (many, ()))

    def test_all_deeds_and_signs(self):
        for deed in DEEDS:
            for sign in SIGNS:
                house = (12, ((11, deed, 10, sign),))
                self.assertEqual(shown_house(house), f"12: 11 {deed} 10 {sign}")
                self.assertEqual(read_house(f"12: 11 {deed} 10 {sign}"), house)

    def test_texts_of_no_house(self):
        for text in NO_HOUSE_TEXTS:
            with self.subTest(text[:80]):
                self.refused(NoText, read_house, text)

    def test_a_hundred_ways_and_one_more(self):
        self.assertEqual(read_house(plainly_written_house(full_house(100))), full_house(100))
        self.refused(NoText, read_house, plainly_written_house(full_house(101)))

    def test_all_texts_near_to_written_ones(self):
        signs = " ,:019-+_upaAz"
        for text in ("2:", "12:", "1: 0 up 0 a", "2: 0 up 1 a, 1 zero 0 b", "12: 11 down 10 z, 1 stay 0 b"):
            for other in near(text, signs):
                with self.subTest(other):
                    self.reads_as(read_house, other, plainly_read_house(other))

    def test_what_was_refused_may_be_asked_again(self):
        for _ in range(2):
            self.refused(NoText, read_house, "2: ")
            self.assertEqual(read_house("1:"), LONE)


class Stairs(Reading):
    def test_the_texts_that_the_document_gives(self):
        self.assertEqual(shown_stair((3, 2, (), (4,))), "3 2 : : 4")
        self.assertEqual(shown_stair((4, 1, (3,), ())), "4 1 : 3 :")
        self.assertEqual(read_stair("3 2 : : 4"), (3, 2, (), (4,)))
        self.assertEqual(read_stair("4 1 : 3 :"), (4, 1, (3,), ()))

    def test_empty_rows(self):
        self.assertEqual(shown_stair(NOTHING), "0 1 : :")
        self.assertEqual(shown_stair(ALL), "0 1 : : 0")
        self.assertEqual(read_stair("0 1 : :"), NOTHING)
        self.assertEqual(read_stair("0 1 : : 0"), ALL)

    def test_written_and_read_again_in_any_form(self):
        for stair in all_stairs(3, 4) + JUST_LET_BY:
            with self.subTest(stair[:2]):
                text = shown_stair(stair)
                self.assertEqual(text, plainly_written_stair(stair))
                self.assertEqual(read_stair(text), stair)

    def test_stairs_that_are_not_in_least_form_are_left_as_they_are(self):
        self.assertEqual(shown_stair((2, 4, (0,), (2, 4))), "2 4 : 0 : 2 4")
        self.assertEqual(read_stair("2 4 : 0 : 2 4"), (2, 4, (0,), (2, 4)))
        self.assertEqual(read_stair("3000 840 : :"), (3000, 840, (), ()))

    def test_stairs_beyond_the_bounds_are_read_and_not_written(self):
        for text, stair in BEYOND:
            with self.subTest(text):
                self.assertEqual(read_stair(text), stair)
                self.refused(TooGreat, shown_stair, stair)

    def test_numbers_of_six_and_of_seven_figures(self):
        self.assertEqual(read_stair("999999 1 : 999998 :"), (999999, 1, (999998,), ()))
        self.assertEqual(read_stair("999998 2 : : 999999"), (999998, 2, (), (999999,)))
        self.assertEqual(read_stair("0 999999 : : 999998"), (0, 999999, (), (999998,)))
        self.refused(NoText, read_stair, "1000000 1 : :")
        self.refused(NoText, read_stair, "999999 2 : : 1000000")
        self.refused(NoText, read_stair, "0 1000000 : :")
        self.refused(NoText, read_stair, "1000001 1 : 1000000 :")

    def test_texts_of_no_stair(self):
        for text in NO_STAIR_TEXTS:
            with self.subTest(text[:80]):
                self.refused(NoText, read_stair, text)

    def test_all_texts_near_to_written_ones(self):
        signs = " ,:01239-+_a"
        for text in ("0 1 : :", "0 1 : : 0", "3 2 : : 4", "4 1 : 3 :", "12 10 : 0 2 11 : 13 20", "999999 1 : :"):
            for other in near(text, signs):
                with self.subTest(other):
                    self.reads_as(read_stair, other, plainly_read_stair(other))

    def test_what_is_no_stair_and_what_is_too_great_when_it_is_to_be_written(self):
        for at, thing in enumerate(NO_STAIRS):
            with self.subTest(at):
                self.refused(NoStair, shown_stair, thing)
        for stair in TOO_GREAT:
            with self.subTest(stair[:2]):
                self.refused(TooGreat, shown_stair, stair)

    def test_what_was_refused_is_not_changed_and_may_be_asked_again(self):
        thing = [0, 1, [], [0]]
        for _ in range(2):
            self.refused(NoStair, shown_stair, thing)
            self.assertEqual(thing, [0, 1, [], [0]])
            self.refused(TooGreat, shown_stair, (3001, 1, (), ()))
            self.refused(NoText, read_stair, "0 1 ::")
            self.assertEqual(shown_stair(ALL), "0 1 : : 0")


if __name__ == "__main__":
    unittest.main()
