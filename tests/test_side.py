import unittest
from itertools import product

from stairrooms.errors import NoHouse, NotBare, TooGreat
from stairrooms.houses import is_house
from stairrooms.side import is_bare, side_by_side
from stairrooms.words import first_words, reads
from tests.helper import (
    DEEDS, HOUSES, LONE, MINGLED, NO_HOUSES, PLAIN, SIGNS, Case, Dice, full_house, thrown_house, thrown_houses,
)

STAYS = (2, ((0, "stay", 1, "a"), (1, "stay", 0, "b"), (1, "stay", 1, "a")))


def beside(house, bare):
    """Way by way, straight by point 30."""
    n = bare[0]
    ways = []
    for r, deed, r1, sign in house[1]:
        for s, _, s1, other in bare[1]:
            if sign == other:
                ways.append((r * n + s, deed, r1 * n + s1, sign))
    return (house[0] * n, tuple(ways))


def letters(many, count):
    """A bare house of many rooms and count ways, all with other signs or rooms."""
    ways = [(r, "stay", s, sign) for sign in SIGNS for r in range(many) for s in range(many)]
    return (many, tuple(ways[:count]))


class IsBare(Case):
    def test_each_deed(self):
        for deed in DEEDS:
            self.assertIs(is_bare((1, ((0, deed, 0, "a"),))), deed == "stay")
            self.assertIs(is_bare((2, STAYS[1] + ((0, deed, 0, "a"),))), deed == "stay")
            self.assertIs(is_bare((2, ((0, deed, 0, "a"),) + STAYS[1])), deed == "stay")

    def test_some(self):
        self.assertIs(is_bare(LONE), True)
        self.assertIs(is_bare((12, ())), True)
        self.assertIs(is_bare(STAYS), True)
        self.assertIs(is_bare(MINGLED), False)
        self.assertIs(is_bare(letters(2, 100)), True)

    def test_what_is_no_house(self):
        for at, thing in enumerate(NO_HOUSES):
            with self.subTest(at):
                self.refused(NoHouse, is_bare, thing)


class SideBySide(Case):
    def test_some(self):
        house = (2, ((0, "up", 1, "a"), (1, "down", 0, "b"), (1, "zero", 1, "a"), (0, "stay", 0, "c")))
        self.assertEqual(
            side_by_side(house, STAYS),
            (
                4,
                (
                    (0, "up", 3, "a"), (1, "up", 3, "a"), (3, "down", 0, "b"), (2, "zero", 3, "a"), (3, "zero", 3, "a"),
                ),
            ),
        )
        self.assertEqual(side_by_side(LONE, LONE), LONE)
        self.assertEqual(side_by_side(MINGLED, LONE), (3, ()))
        self.assertEqual(side_by_side(PLAIN, (1, ((0, "stay", 0, "b"),))), (2, ((1, "zero", 0, "b"),)))
        self.assertEqual(side_by_side((3, ()), (4, ())), (12, ()))

    def test_way_by_way_in_order(self):
        dice = Dice(181)
        for _ in range(200):
            house = thrown_house(dice, 1 + dice.below(4), dice.below(9))
            bare = thrown_house(dice, 1 + dice.below(3), dice.below(7), ["stay"])
            told = side_by_side(house, bare)
            self.assertEqual(told, beside(house, bare))
            self.assertIs(is_house(told), True)

    def test_a_house_that_is_not_bare(self):
        for house in HOUSES + thrown_houses(182, 30):
            if any(way[1] != "stay" for way in house[1]):
                self.refused(NotBare, side_by_side, LONE, house)
                self.refused(NotBare, side_by_side, (12, ()), house)
                self.refused(NotBare, side_by_side, house, house)
        for deed in ("up", "down", "zero"):
            self.refused(NotBare, side_by_side, STAYS, (1, ((0, deed, 0, "a"),)))

    def test_twelve_rooms_and_thirteen(self):
        for first in range(1, 13):
            for second in range(1, 13):
                if first * second <= 12:
                    self.assertEqual(side_by_side((first, ()), (second, ())), (first * second, ()))
                else:
                    self.refused(TooGreat, side_by_side, (first, ()), (second, ()))
        self.refused(TooGreat, side_by_side, MINGLED, letters(5, 20))

    def test_a_hundred_ways_and_one_more(self):
        fours = [(0, deed, 0, "a") for deed in DEEDS]
        row = [(r, "stay", s, "a") for r in range(6) for s in range(6)]
        self.assertEqual(len(side_by_side((1, tuple(fours)), (6, tuple(row[:25])))[1]), 100)
        self.refused(TooGreat, side_by_side, (1, tuple(fours)), (6, tuple(row[:26])))
        # four times 25 ways and one more
        house = (1, tuple(fours + [(0, "up", 0, "b")]))
        bare = (6, tuple(row[:25]))
        self.assertEqual(len(side_by_side(house, bare)[1]), 100)
        self.refused(TooGreat, side_by_side, house, (6, bare[1] + ((5, "stay", 5, "b"),)))

    def test_its_words_are_those_that_are_words_of_both(self):
        dice = Dice(183)
        texts = ["".join(row) for size in range(6) for row in product("abc", repeat=size)]
        both = 0
        for _ in range(40):
            house = thrown_house(dice, 1 + dice.below(3), 3 + dice.below(7))
            bare = thrown_house(dice, 1 + dice.below(3), 3 + dice.below(6), ["stay"])
            told = side_by_side(house, bare)
            r, r1, s, s1 = dice.below(house[0]), dice.below(house[0]), dice.below(bare[0]), dice.below(bare[0])
            p, q = r * bare[0] + s, r1 * bare[0] + s1
            words = [text for text in texts if reads(house, r, r1, text) and reads(bare, s, s1, text)]
            both += len(words)
            self.assertEqual([text for text in texts if reads(told, p, q, text)], words)
            self.assertEqual(
                first_words(told, p, q, 5, 200), sorted(words, key=lambda word: (len(word), word))[:200],
            )
        self.assertGreater(both, 100)

    def test_which_refusal_goes_first(self):
        for thing in NO_HOUSES:
            self.refused(NoHouse, side_by_side, thing, STAYS)
            self.refused(NoHouse, side_by_side, STAYS, thing)
            self.refused(NoHouse, side_by_side, thing, MINGLED)
            self.refused(NoHouse, side_by_side, thing, full_house())
            self.refused(NoHouse, side_by_side, thing, thing)
        self.refused(NotBare, side_by_side, full_house(), full_house())
        self.refused(NotBare, side_by_side, (12, ()), PLAIN)
        for _ in range(2):
            self.refused(TooGreat, side_by_side, (12, ()), STAYS)


if __name__ == "__main__":
    unittest.main()
