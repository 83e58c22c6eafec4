import unittest

from stairrooms.backward import backward
from stairrooms.errors import NoHouse, NoPlace, TooGreat
from stairrooms.forward import forward
from stairrooms.houses import turned_about
from stairrooms.stairs import is_stair, least
from tests.helper import (
    ALL, HOUSES, LONE, MINGLED, NO_HOUSES, NOTHING, PLAIN, Case, Dice, full_house, held, late_ring, numbers_of_rooms,
    places_of, places_to, rings_house, side_rings, thrown_house, thrown_houses,
)

FAR = 10 ** 59


class Backward(Case):
    def agrees(self, house, goal, top):
        sought = numbers_of_rooms(house, places_to(house, goal, top))
        told = backward(house, goal)
        with self.subTest(house=house, goal=goal):
            self.assertIsInstance(told, list)
            self.assertEqual(len(told), house[0])
            for stair, numbers in zip(told, sought):
                self.assertIs(is_stair(stair), True)
                self.assertEqual(least(stair), stair)
                self.assertTrue(held(stair, top + 1) == numbers, "other numbers than the search found")

    def test_some(self):
        self.assertEqual(backward(LONE, (0, 7)), [(8, 1, (7,), ())])
        self.assertEqual(backward(PLAIN, (1, 1)), [(1, 1, (0,), ()), (2, 1, (0, 1), ())])
        self.assertEqual(backward(PLAIN, (0, 0)), [(1, 1, (0,), ()), (1, 1, (0,), ())])
        down = (2, ((0, "down", 0, "a"), (0, "zero", 1, "b")))
        self.assertEqual(backward(down, (1, 0)), [ALL, (1, 1, (0,), ())])
        self.assertEqual(backward(down, (1, 1)), [NOTHING, (2, 1, (1,), ())])
        twos = (2, ((0, "down", 1, "a"), (1, "down", 0, "a")))
        self.assertEqual(backward(twos, (0, 3)), [(2, 2, (), (3,)), (3, 2, (), (4,))])

    def test_against_a_search(self):
        for house in HOUSES[:7] + [rings_house(2, 3, 1)] + thrown_houses(101, 80):
            for goal in places_of(house, 3):
                self.agrees(house, goal, goal[1] + 30)

    def test_great_numbers_and_great_houses_against_a_search(self):
        dice = Dice(102)
        for house in (rings_house(3, 4, 2), turned_about(late_ring(5)), MINGLED, turned_about(side_rings([2, 3], 1))):
            self.agrees(house, (0, 1000), 1060)
            self.agrees(house, (house[0] - 1, 400 + dice.below(600)), 1060)
        for count in (15, 25, 100):
            self.agrees(thrown_house(dice, 12, count), (0, dice.below(20)), 150)

    def test_forward_in_the_house_turned_about(self):
        dice = Dice(103)
        for house in HOUSES + [late_ring(12), full_house()] + thrown_houses(104, 100):
            for number in (0, dice.below(50), 1000):
                goal = (dice.below(house[0]), number)
                self.assertEqual(backward(house, goal), forward(turned_about(house), goal))

    def test_a_number_stands_in_the_one_just_where_the_goal_stands_in_the_other(self):
        for house in [MINGLED, rings_house(2, 3, 0), late_ring(4)] + thrown_houses(105, 30):
            places = places_of(house, 5)
            forth = {place: [held(stair, 5) for stair in forward(house, place)] for place in places}
            back = {goal: [held(stair, 5) for stair in backward(house, goal)] for goal in places}
            for place in places:
                for goal in places:
                    with self.subTest(house=house, place=place, goal=goal):
                        self.assertEqual(goal[1] in forth[place][goal[0]], place[1] in back[goal][place[0]])

    def test_a_told_list_is_the_askers_own(self):
        before = list(backward(MINGLED, (2, 0)))
        told = backward(MINGLED, (2, 0))
        told[1] = None
        told.append(3)
        self.assertEqual(backward(MINGLED, (2, 0)), before)

    def test_refusals_in_their_order(self):
        for thing in NO_HOUSES:
            for goal in ((0, 0), (0, -1), (0, 1001)):
                self.refused(NoHouse, backward, thing, goal)
        for goal in ((2, 0), (-1, 0), (0, -1), (2, 1001), (FAR, FAR), (1, -FAR)):
            self.refused(NoPlace, backward, PLAIN, goal)
        for goal in ((0, 1001), (1, FAR)):
            self.refused(TooGreat, backward, PLAIN, goal)


if __name__ == "__main__":
    unittest.main()
