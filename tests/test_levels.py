import unittest

from stairrooms.levels import fallen, kept, risen
from tests.helper import (
    HOUSES, LONE, MINGLED, PLAIN, Dice, full_house, lengths_from, rings_house, thrown_house, thrown_houses,
)


def sought_kept(house, level):
    """By a search from each room, no number below the level and no zero way."""
    ways = [way for way in house[1] if way[1] != "zero"]
    pairs = set()
    for p in range(house[0]):
        met = lengths_from(ways, (p, level), level, level + house[0] * house[0])
        pairs |= {(p, q) for q, number in met if number == level}
    return pairs


def sought_risen(house, level):
    keeps = sought_kept(house, level + 1)
    return {
        (p, q) for p, deed, p1, _ in house[1] if deed == "up" for q in range(house[0]) if (p1, q) in keeps
    }


def sought_fallen(house, level):
    keeps = sought_kept(house, level)
    return {
        (p, q) for p1, deed, q, _ in house[1] if deed == "down" for p in range(house[0]) if (p, p1) in keeps
    }


ASKS = [(kept, sought_kept), (risen, sought_risen), (fallen, sought_fallen)]


class Levels(unittest.TestCase):
    def agrees(self, house, level):
        for ask, seek in ASKS:
            with self.subTest(house=house, ask=ask.__name__, level=level):
                told = ask(house)
                self.assertIsInstance(told, list)
                self.assertEqual(told, sorted(seek(house, level)))

    def test_a_house_keeps_each_room_and_itself(self):
        for many in range(1, 13):
            self.assertEqual(kept((many, ())), [(p, p) for p in range(many)])
            self.assertEqual(risen((many, ())), [])
            self.assertEqual(fallen((many, ())), [])

    def test_some(self):
        self.assertEqual(kept(PLAIN), [(0, 0), (1, 1)])
        self.assertEqual(risen(PLAIN), [(0, 1)])
        self.assertEqual(fallen(PLAIN), [])
        stays = (3, ((2, "stay", 0, "a"), (0, "stay", 1, "a")))
        self.assertEqual(kept(stays), [(0, 0), (0, 1), (1, 1), (2, 0), (2, 1), (2, 2)])
        arch = (4, ((0, "up", 1, "a"), (1, "stay", 2, "a"), (2, "down", 3, "a")))
        self.assertEqual(kept(arch), [(0, 0), (0, 3), (1, 1), (1, 2), (2, 2), (3, 3)])
        self.assertEqual(risen(arch), [(0, 1), (0, 2)])
        self.assertEqual(fallen(arch), [(1, 3), (2, 3)])

    def test_zero_ways_are_not_gone(self):
        zeros = (2, ((0, "zero", 1, "a"), (1, "zero", 0, "a")))
        self.assertEqual(kept(zeros), [(0, 0), (1, 1)])
        above = (3, ((0, "up", 1, "a"), (1, "zero", 2, "a"), (2, "down", 0, "a")))
        self.assertEqual(kept(above), [(0, 0), (1, 1), (2, 2)])

    def test_numbers_below_the_level_are_not_met(self):
        valley = (3, ((0, "down", 1, "a"), (1, "up", 2, "a")))
        self.assertEqual(kept(valley), [(0, 0), (1, 1), (2, 2)])
        self.assertEqual(risen(valley), [(1, 2)])
        self.assertEqual(fallen(valley), [(0, 1)])

    def test_arches_within_and_behind_arches(self):
        for up, down in ((2, 3), (3, 4), (5, 6)):
            self.agrees(rings_house(up, down, 1), 1)
        self.assertIn((0, 5), kept(rings_house(5, 6, 1)))
        self.assertIn((0, 10), kept(rings_house(5, 6, 1)))

    def test_against_a_search_at_each_level(self):
        for house in HOUSES[:7] + [MINGLED] + thrown_houses(41, 150):
            for level in (1, 2, 9):
                self.agrees(house, level)

    def test_great_houses_against_a_search(self):
        dice = Dice(42)
        for count in (20, 30, 45, 100):
            self.agrees(thrown_house(dice, 12, count), 1)
            self.agrees(thrown_house(dice, 12, count, ["up", "down", "zero"]), 3)
        self.agrees(full_house(), 1)

    def test_each_list_is_rising_and_each_pair_stands_once(self):
        double = (2, ((0, "up", 1, "b"), (0, "up", 1, "a"), (1, "down", 0, "a"), (1, "down", 0, "b"), (1, "up", 1, "a")))
        self.assertEqual(kept(double), [(0, 0), (1, 0), (1, 1)])
        self.assertEqual(risen(double), [(0, 0), (0, 1), (1, 0), (1, 1)])
        self.assertEqual(fallen(double), [(1, 0)])
        for house in HOUSES + thrown_houses(43, 60):
            for ask, _ in ASKS:
                told = ask(house)
                self.assertEqual(told, sorted(set(told)))

    def test_a_told_list_is_the_askers_own(self):
        for ask, _ in ASKS:
            before = list(ask(MINGLED))
            told = ask(MINGLED)
            told.append((9, 9))
            told[0] = None
            self.assertEqual(ask(MINGLED), before)
        told = kept(LONE)
        told.clear()
        self.assertEqual(kept(LONE), [(0, 0)])


if __name__ == "__main__":
    unittest.main()
