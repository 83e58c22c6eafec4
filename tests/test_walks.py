import unittest

from stairrooms.errors import NoPlace, NoWalk, TooGreat
from stairrooms.houses import open_ways, turned_about
from stairrooms.walks import shortest, walked
from tests.helper import (
    HOUSES, LONE, MINGLED, PLAIN, Case, Dice, full_house, gone, lengths_from, places_of, rings_house,
    thrown_house, thrown_houses,
)

FAR = 10 ** 59
LOOP = (1, ((0, "up", 0, "a"), (0, "down", 0, "b"), (0, "stay", 0, "c"), (0, "zero", 0, "d")))


class Walked(Case):
    def refused_at(self, at, house, place, walk):
        self.assertEqual(self.refused(NoWalk, walked, house, place, walk).at, at)

    def test_the_empty_walk(self):
        for house in HOUSES:
            for place in ((0, 0), (house[0] - 1, 1000)):
                self.assertEqual(walked(house, place, []), [place])

    def test_some(self):
        self.assertEqual(walked(PLAIN, (0, 0), [0]), [(0, 0), (1, 1)])
        self.assertEqual(walked(PLAIN, (1, 0), [1, 0]), [(1, 0), (0, 0), (1, 1)])
        self.assertEqual(walked(LOOP, (0, 0), [3, 2, 0, 1, 3]), [(0, 0), (0, 0), (0, 0), (0, 1), (0, 0), (0, 0)])
        self.assertEqual(
            walked(MINGLED, (0, 1), [0, 1, 2, 2, 3, 4]),
            [(0, 1), (0, 2), (1, 2), (1, 1), (1, 0), (2, 0), (1, 1)],
        )

    def test_each_way_at_each_place(self):
        for house in HOUSES + thrown_houses(21, 60):
            for place in places_of(house, 3):
                for count, way in enumerate(house[1]):
                    there = gone(way, place)
                    with self.subTest(house=house, place=place, count=count):
                        if there is None:
                            self.refused_at(0, house, place, [count])
                        else:
                            self.assertEqual(walked(house, place, [count]), [place, there])

    def test_thrown_walks(self):
        dice = Dice(22)
        for house in HOUSES + thrown_houses(23, 100):
            place = (dice.below(house[0]), dice.below(4))
            places, walk = [place], []
            for _ in range(dice.below(60)):
                ways = [n for n, way in enumerate(house[1]) if gone(way, places[-1]) is not None]
                if ways:
                    walk.append(dice.of(ways))
                    places.append(gone(house[1][walk[-1]], places[-1]))
            with self.subTest(house=house, place=place, walk=walk):
                self.assertEqual(walked(house, place, walk), places)

    def test_counts_that_are_no_way(self):
        for count in (-1, -2, -4, -5, 4, 5, 100, FAR, -FAR):
            with self.subTest(count):
                self.refused_at(0, LOOP, (0, 0), [count])
                self.refused_at(1, LOOP, (0, 0), [0, count])
                self.refused_at(3, LOOP, (0, 0), [0, 0, 1, count, 0, count])
        self.refused_at(0, LONE, (0, 0), [0])
        self.refused_at(0, LONE, (0, 0), [-1])
        walked(full_house(), (0, 0), [0])
        for count in (-100, -1, 100):
            self.refused_at(0, full_house(), (0, 0), [count])

    def test_ways_that_are_not_open(self):
        self.refused_at(0, PLAIN, (1, 0), [0])
        self.refused_at(1, PLAIN, (0, 0), [0, 1])
        self.refused_at(0, LOOP, (0, 0), [1])
        self.refused_at(0, LOOP, (0, 1), [3])
        self.refused_at(1, LOOP, (0, 1), [1, 1])
        self.refused_at(2, LOOP, (0, 0), [3, 0, 3])
        self.refused_at(7, LOOP, (0, 3), [1, 1, 1, 3, 2, 0, 1, 1, 3])

    def test_numbers_above_a_thousand_may_be_met(self):
        places = walked(LOOP, (0, 1000), [0, 0, 2, 1])
        self.assertEqual(places, [(0, 1000), (0, 1001), (0, 1002), (0, 1002), (0, 1001)])
        self.refused_at(2, LOOP, (0, 1000), [0, 0, 3])

    def test_twenty_thousand_ways_and_one_more(self):
        places = walked(LOOP, (0, 1000), [0] * 20000)
        self.same_long_lists(places, [(0, number) for number in range(1000, 21001)])
        self.refused(TooGreat, walked, LOOP, (0, 1000), [0] * 20001)
        self.refused_at(19999, LOOP, (0, 0), [0] * 19999 + [3])
        self.refused_at(0, LONE, (0, 0), [0] * 20000)

    def test_which_refusal_goes_first(self):
        self.refused(TooGreat, walked, LOOP, (0, 0), [9] * 20001)
        self.refused(TooGreat, walked, LOOP, (0, 0), [1] + [0] * 20000)
        self.refused(TooGreat, walked, LOOP, (0, 1001), [9])
        self.refused(TooGreat, walked, LOOP, (0, 1001), [0] * 20001)
        self.refused(NoPlace, walked, LOOP, (1, 0), [0] * 20001)
        self.refused(NoPlace, walked, LOOP, (0, -1), [9])
        self.refused(NoPlace, walked, LOOP, (1, 1001), [9] * 20001)

    def test_lists_are_their_owners_own(self):
        walk = [0, 2, 1]
        told = walked(LOOP, (0, 0), walk)
        self.assertEqual(walk, [0, 2, 1])
        walk.append(1)
        walk[0] = 1
        self.assertEqual(told, [(0, 0), (0, 1), (0, 1), (0, 0)])
        told.append("more")
        told[0] = "other"
        self.assertEqual(walked(LOOP, (0, 0), [0, 2, 1]), [(0, 0), (0, 1), (0, 1), (0, 0)])

    def test_what_was_refused_is_not_changed_and_may_be_asked_again(self):
        walk = [0, 3, 9]
        for _ in range(2):
            self.refused_at(1, LOOP, (0, 0), walk)
            self.assertEqual(walk, [0, 3, 9])
            self.assertEqual(walked(LOOP, (0, 0), [0]), [(0, 0), (0, 1)])


class Shortest(Case):
    def is_walk(self, house, place, goal, walk, length):
        """That a told walk leads to the goal, with as many ways as it should, no number above the bound."""
        self.assertIsInstance(walk, list)
        self.assertEqual(len(walk), length)
        rooms, most = house[0], max(place[1], goal[1])
        here = place
        for count in walk:
            self.assertIn(count, range(len(house[1])))
            here = gone(house[1][count], here)
            self.assertIsNotNone(here)
            self.assertLessEqual(here[1], most + rooms * rooms)
        self.assertEqual(here, goal)
        self.assertLessEqual(len(walk), rooms * (most + rooms * rooms + 1) - 1)

    def agrees(self, house, place, goal):
        most = max(place[1], goal[1]) + house[0] * house[0]
        length = lengths_from(house[1], place, 0, most).get(goal)
        self.is_shortest(house, place, goal, length)

    def is_shortest(self, house, place, goal, length):
        with self.subTest(house=house, place=place, goal=goal):
            walk = shortest(house, place, goal)
            back = shortest(turned_about(house), goal, place)
            if length is None:
                self.assertIsNone(walk)
                self.assertIsNone(back)
            else:
                self.is_walk(house, place, goal, walk, length)
                self.assertEqual(walked(house, place, walk)[-1], goal)
                self.is_walk(turned_about(house), goal, place, back, length)

    def test_from_a_place_to_itself(self):
        for house in HOUSES:
            for place in ((0, 0), (house[0] - 1, 7), (0, 1000)):
                self.assertEqual(shortest(house, place, place), [])

    def test_where_the_goal_can_not_be_come_to(self):
        self.assertIsNone(shortest(LONE, (0, 0), (0, 1)))
        self.assertIsNone(shortest(LONE, (0, 1), (0, 0)))
        self.assertIsNone(shortest((2, ()), (0, 0), (1, 0)))
        self.assertIsNone(shortest(PLAIN, (0, 0), (0, 1)))
        self.assertIsNone(shortest((1, ((0, "up", 0, "a"),)), (0, 1), (0, 0)))
        self.assertIsNone(shortest((1, ((0, "down", 0, "a"),)), (0, 0), (0, 1)))
        self.assertIsNone(shortest((1, ((0, "up", 0, "a"),)), (0, 1000), (0, 999)))

    def test_through_a_zero_way(self):
        self.assertEqual(shortest(PLAIN, (1, 0), (0, 0)), [1])
        self.assertIsNone(shortest(PLAIN, (1, 1), (0, 1)))
        house = (2, ((0, "down", 0, "a"), (0, "zero", 1, "b"), (1, "up", 1, "c")))
        self.assertEqual(shortest(house, (0, 3), (1, 2)), [0, 0, 0, 1, 2, 2])
        self.assertEqual(len(shortest(house, (0, 1000), (1, 1000))), 2001)
        self.assertIsNone(shortest(house, (1, 0), (0, 0)))

    def test_one_of_several_shortest_walks(self):
        house = (1, ((0, "up", 0, "a"), (0, "up", 0, "b"), (0, "stay", 0, "c")))
        walk = shortest(house, (0, 0), (0, 3))
        self.assertEqual(len(walk), 3)
        self.assertLessEqual(set(walk), {0, 1})

    def test_all_small_places_of_thrown_houses(self):
        for house in [MINGLED, LOOP] + thrown_houses(31, 60):
            places = places_of(house, 3)
            for place in places:
                least = lengths_from(house[1], place, 0, 2 + house[0] * house[0])
                for goal in places:
                    self.is_shortest(house, place, goal, least.get(goal))

    def test_greater_numbers_of_thrown_houses(self):
        dice = Dice(32)
        for house in thrown_houses(33, 40):
            for _ in range(4):
                place = (dice.below(house[0]), dice.below(30))
                goal = (dice.below(house[0]), dice.below(30))
                self.agrees(house, place, goal)

    def test_walks_that_must_rise_far_above_both_numbers(self):
        for up, down in ((2, 3), (3, 4), (4, 5), (5, 4), (5, 6), (6, 5)):
            for exit_at in range(down):
                house = rings_house(up, down, exit_at)
                self.agrees(house, (0, 0), (up + down, 0))
        walk = shortest(rings_house(5, 6, 1), (0, 0), (11, 0))
        self.assertEqual(max(walked(rings_house(5, 6, 1), (0, 0), walk)), (11, 0))
        self.assertEqual(max(number for _, number in walked(rings_house(5, 6, 1), (0, 0), walk)), 25)
        self.assertEqual(len(walk), 25 + 1 + 25 + 1)
        self.assertIsNone(shortest(rings_house(6, 4, 1), (0, 0), (10, 0)))

    def test_the_greatest_numbers_and_houses(self):
        dice = Dice(34)
        for deeds in (["up", "down", "stay", "zero"], ["down", "zero"], ["up", "down"]):
            house = thrown_house(dice, 12, 100, deeds)
            for place, goal in (((0, 1000), (11, 0)), ((3, 0), (7, 1000)), ((5, 1000), (6, 1000))):
                self.agrees(house, place, goal)

    def test_a_long_walk(self):
        ring = tuple((r, "down" if r == 0 else "stay", (r + 1) % 12, "a") for r in range(12))
        walk = shortest((12, ring), (0, 1000), (0, 0))
        self.same_long_lists(walk, list(range(12)) * 1000)
        self.assertEqual(walked((12, ring), (0, 1000), walk)[-1], (0, 0))

    def test_a_told_list_is_the_askers_own(self):
        for place, goal in (((1, 0), (1, 1)), ((1, 0), (1, 0))):
            before = shortest(PLAIN, place, goal)
            told = shortest(PLAIN, place, goal)
            told.append(5)
            told[0] = 7
            self.assertEqual(shortest(PLAIN, place, goal), before)

    def test_the_first_way_is_an_open_one(self):
        for house in thrown_houses(35, 40):
            for goal in places_of(house, 2):
                walk = shortest(house, (0, 1), goal)
                if walk:
                    self.assertIn(walk[0], open_ways(house, (0, 1)))


if __name__ == "__main__":
    unittest.main()
