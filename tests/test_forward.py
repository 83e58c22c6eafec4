import unittest

from stairrooms.errors import NoHouse, NoPlace, TooGreat
from stairrooms.forward import forward, rooms_at
from stairrooms.levels import risen
from stairrooms.stairs import is_stair, least
from tests.helper import (
    ALL, HOUSES, LONE, MINGLED, NO_HOUSES, NOTHING, PLAIN, Case, Dice, found_places, full_house, held, late_ring,
    numbers_of_rooms, places_of, rings_house, side_rings, thrown_house, thrown_houses, tried_least,
)

FAR = 10 ** 59
# down from the place, at 0 through a zero way, and up again by rings of 2 and of 3
THROUGH_ZERO = (
    7,
    (
        (0, "down", 0, "d"),
        (0, "zero", 1, "z"),
        (1, "up", 2, "u"),
        (2, "up", 1, "u"),
        (1, "zero", 3, "z"),
        (3, "up", 4, "u"),
        (4, "up", 5, "u"),
        (5, "up", 3, "u"),
        (2, "stay", 6, "s"),
        (5, "stay", 6, "s"),
    ),
)


class Forward(Case):
    def agrees(self, house, place, top, small=True):
        sought = numbers_of_rooms(house, found_places(house, place, top))
        told = forward(house, place)
        with self.subTest(house=house, place=place):
            self.assertIsInstance(told, list)
            self.assertEqual(len(told), house[0])
            for stair, numbers in zip(told, sought):
                self.assertIs(is_stair(stair), True)
                self.assertTrue(held(stair, top + 1) == numbers, "other numbers than the search found")
                self.assertEqual(tried_least(stair) if small else least(stair), stair)

    def test_houses_without_ways(self):
        self.assertEqual(forward(LONE, (0, 0)), [(1, 1, (0,), ())])
        self.assertEqual(forward(LONE, (0, 1000)), [(1001, 1, (1000,), ())])
        for many in range(1, 13):
            told = forward((many, ()), (many - 1, 3))
            self.assertEqual(told, [NOTHING] * (many - 1) + [(4, 1, (3,), ())])

    def test_some(self):
        self.assertEqual(forward(PLAIN, (0, 0)), [(1, 1, (0,), ()), (2, 1, (1,), ())])
        self.assertEqual(forward(PLAIN, (1, 0)), [(1, 1, (0,), ()), (2, 1, (0, 1), ())])
        up = (1, ((0, "up", 0, "a"),))
        self.assertEqual(forward(up, (0, 0)), [ALL])
        self.assertEqual(forward(up, (0, 1000)), [(1000, 1, (), (1000,))])
        down = (1, ((0, "down", 0, "a"),))
        self.assertEqual(forward(down, (0, 2)), [(3, 1, (0, 1, 2), ())])
        evens = (2, ((0, "up", 1, "a"), (1, "up", 0, "a")))
        self.assertEqual(forward(evens, (0, 4)), [(3, 2, (), (4,)), (4, 2, (), (5,))])

    def test_through_zero(self):
        self.assertEqual(
            forward(THROUGH_ZERO, (0, 2)),
            [
                (3, 1, (0, 1, 2), ()), (0, 2, (), (0,)), (0, 2, (), (1,)),
                (0, 3, (), (0,)), (0, 3, (), (1,)), (0, 3, (), (2,)), (0, 6, (), (1, 2, 3, 5)),
            ],
        )
        self.assertEqual(forward(THROUGH_ZERO, (1, 2))[3:6], [NOTHING] * 3)

    def test_all_small_places_of_many_houses_against_a_search(self):
        for house in HOUSES[:7] + [THROUGH_ZERO] + thrown_houses(51, 120):
            for place in places_of(house, 3):
                self.agrees(house, place, place[1] + 40)

    def test_places_with_greater_numbers_against_a_search(self):
        dice = Dice(52)
        for house in thrown_houses(53, 60) + [rings_house(2, 3, 1), rings_house(3, 4, 2), THROUGH_ZERO]:
            self.agrees(house, (dice.below(house[0]), 4 + dice.below(20)), 70)

    def test_numbers_to_a_thousand_against_a_search(self):
        dice = Dice(54)
        houses = [MINGLED, THROUGH_ZERO, rings_house(5, 6, 1), side_rings([3, 4], 1), late_ring(12)]
        houses += [thrown_house(dice, 6, 14) for _ in range(6)]
        for house in houses:
            for number in (999, 1000):
                self.agrees(house, (0, number), 1250, False)
            self.agrees(house, (dice.below(house[0]), dice.below(1000)), 1250, False)

    def test_great_houses_against_a_search(self):
        dice = Dice(55)
        for count in (15, 25, 40):
            for deeds in (["up", "down", "stay", "zero"], ["up", "down", "zero"], ["up", "up", "down"]):
                self.agrees(thrown_house(dice, 12, count, deeds), (0, dice.below(30)), 300, False)
        self.agrees(full_house(), (0, 5), 250, False)

    def test_rings_of_different_lengths(self):
        for lengths in ([2, 3], [3, 4], [4, 6], [2, 3, 5], [5, 6], [3, 4, 5], [1, 4, 7]):
            gathers = int(sum(lengths) < 12)
            for number in (0, 2):
                self.agrees(side_rings(lengths, gathers), (0, number), 200, False)
        self.assertEqual(forward(side_rings([5, 6], 1), (0, 0))[11], (0, 30, (), (4, 5, 9, 11, 14, 17, 19, 23, 24, 29)))

    def test_the_bounds_of_steps_and_bases(self):
        dice = Dice(56)
        houses = [thrown_house(dice, 12, 12 + dice.below(20), ["up", "up", "up", "down"]) for _ in range(40)]
        houses += [late_ring(many) for many in range(2, 13)]
        houses += [side_rings([3, 4, 5], 0), side_rings([5, 6], 1), side_rings([4, 7], 1), full_house()]
        for house in houses:
            for place in ((0, 0), (house[0] - 1, 1000)):
                for base, step, _, _ in forward(house, place):
                    with self.subTest(house=house, place=place):
                        self.assertLessEqual(base, 1200)
                        self.assertLessEqual(step, 60)

    def test_a_late_base(self):
        bases = [base for base, _, _, _ in forward(late_ring(12), (0, 1000))]
        self.assertGreater(max(bases), 1100)
        self.agrees(late_ring(12), (0, 1000), 1300, False)

    def test_each_told_number_is_held_again_from_where_it_leads(self):
        # what can be come to from a place that can be come to, can be come to
        for house in thrown_houses(57, 40):
            told = forward(house, (0, 1))
            for room, number in found_places(house, (0, 1), 4):
                for behind, stair in zip(forward(house, (room, number)), told):
                    self.assertLessEqual(held(behind, 60), held(stair, 60))

    def test_a_told_list_is_the_askers_own(self):
        before = list(forward(MINGLED, (0, 1)))
        told = forward(MINGLED, (0, 1))
        told[0] = None
        told.append(ALL)
        self.assertEqual(forward(MINGLED, (0, 1)), before)
        self.assertIsNot(forward(LONE, (0, 0)), forward(LONE, (0, 0)))

    def test_refusals_in_their_order(self):
        for thing in NO_HOUSES:
            self.refused(NoHouse, forward, thing, (0, 0))
            self.refused(NoHouse, forward, thing, (0, 1001))
        self.refused(NoPlace, forward, PLAIN, (2, 1001))
        self.refused(NoPlace, forward, PLAIN, (0, -1))
        self.refused(TooGreat, forward, PLAIN, (1, 1001))


class RoomsAt(Case):
    def agrees(self, house, place, top):
        sought = found_places(house, place, top)
        for level in range(-3, top + 1):
            with self.subTest(house=house, place=place, level=level):
                told = rooms_at(house, place, level)
                self.assertIsInstance(told, list)
                self.assertEqual(told, [room for room in range(house[0]) if (room, level) in sought])

    def test_some(self):
        self.assertEqual(rooms_at(LONE, (0, 0), 0), [0])
        self.assertEqual(rooms_at(LONE, (0, 0), 1), [])
        self.assertEqual(rooms_at(PLAIN, (1, 0), 0), [0, 1])
        self.assertEqual(rooms_at(PLAIN, (1, 0), 1), [1])
        self.assertEqual(rooms_at(THROUGH_ZERO, (0, 5), 7), [2, 4, 6])
        self.assertEqual(rooms_at(THROUGH_ZERO, (0, 5), 5), [0, 2, 5, 6])

    def test_against_a_search(self):
        for house in HOUSES[:7] + [THROUGH_ZERO] + thrown_houses(61, 50):
            for number in (0, 2, 7):
                self.agrees(house, (0, number), number + 12)

    def test_levels_below_zero(self):
        for house in (LONE, PLAIN, MINGLED, full_house()):
            for place in ((0, 0), (house[0] - 1, 1000)):
                for level in (-1, -2, -3000, -FAR):
                    self.assertEqual(rooms_at(house, place, level), [])

    def test_levels_of_three_thousand_and_one_more(self):
        evens = (2, ((0, "up", 1, "a"), (1, "up", 0, "a")))
        for house in (LONE, evens, MINGLED, THROUGH_ZERO, side_rings([5, 6], 1), late_ring(7)):
            for number in (0, 1, 1000):
                sought = found_places(house, (0, number), 3000)
                for level in (2998, 2999, 3000):
                    rooms = [room for room in range(house[0]) if (room, level) in sought]
                    self.assertEqual(rooms_at(house, (0, number), level), rooms)
                self.refused(TooGreat, rooms_at, house, (0, number), 3001)
                self.refused(TooGreat, rooms_at, house, (0, number), FAR)
        self.assertEqual(rooms_at(evens, (0, 1000), 3000), [0])
        self.assertEqual(rooms_at(evens, (0, 999), 3000), [1])

    def test_the_next_levels_rooms_are_those_to_which_the_house_rises(self):
        dice = Dice(62)
        for house in [MINGLED, THROUGH_ZERO, late_ring(5), full_house()] + thrown_houses(63, 60):
            rises = risen(house)
            place = (dice.below(house[0]), dice.below(9))
            for level in range(place[1], place[1] + 15):
                rooms = rooms_at(house, place, level)
                behind = sorted({q for p, q in rises if p in rooms})
                with self.subTest(house=house, place=place, level=level):
                    self.assertEqual(rooms_at(house, place, level + 1), behind)

    def test_a_told_list_is_the_askers_own(self):
        told = rooms_at(PLAIN, (1, 0), 0)
        told.append(7)
        told[0] = 9
        self.assertEqual(rooms_at(PLAIN, (1, 0), 0), [0, 1])
        rooms_at(PLAIN, (1, 0), -1).append(3)
        self.assertEqual(rooms_at(PLAIN, (1, 0), -1), [])

    def test_refusals_in_their_order(self):
        for level in (-1, 0, 3000, 3001, FAR):
            for thing in NO_HOUSES:
                self.refused(NoHouse, rooms_at, thing, (0, -1), level)
            self.refused(NoPlace, rooms_at, PLAIN, (2, 0), level)
            self.refused(NoPlace, rooms_at, PLAIN, (0, -1), level)
            self.refused(NoPlace, rooms_at, PLAIN, (-1, 1001), level)
            self.refused(TooGreat, rooms_at, PLAIN, (0, 1001), level)
            self.refused(TooGreat, rooms_at, PLAIN, (1, FAR), level)


if __name__ == "__main__":
    unittest.main()
