import copy
import unittest
from math import lcm

from stairrooms.backward import backward
from stairrooms.errors import NoPlace, TooGreat
from stairrooms.forward import forward
from stairrooms.papers import answer, sees_closed, sees_never
from stairrooms.stairs import rest_of
from tests.helper import (
    ALL, DEEDS, HOUSES, JUST_LET_BY, LONE, MINGLED, NO_HOUSES, NO_STAIRS, NOTHING, PLAIN, STRANGE, TOO_GREAT, Case,
    Dice, deep_within, found_places, full_house, gone, held, late_ring, lengths_from, places_of, rings_house,
    side_rings, thrown_house, thrown_houses, went, written_out,
)

FAR = 10 ** 59


def one_way(deed):
    return (2, ((0, deed, 1, "a"),))


def raised(deed, number):
    return gone((0, deed, 1, "a"), (0, number))


def only(number):
    return (number + 1, 1, (number,), ())


def all_but(number):
    return (number + 1, 1, tuple(range(number)), (number + 1,))


def closed_by_words(house, stairs):
    """Whether no way leaves the stairs, number by number over more than a whole turn of all of them."""
    end = max(stair[0] for stair in stairs) + lcm(*[stair[1] for stair in stairs]) + 3
    numbers = [held(stair, end + 1) for stair in stairs]
    for room, number in [(room, number) for room in range(house[0]) for number in numbers[room] if number < end]:
        for way in house[1]:
            there = gone(way, (room, number))
            if there is not None and there[1] not in numbers[there[0]]:
                return False
    return True


def other_form(stair, dice):
    """A stair that holds the same numbers, with a greater base and a multiple of the step."""
    base = stair[0] + dice.below(9)
    step = stair[1] * (1 + dice.below(3))
    return written_out(held(stair, base + step), base, step)


def thrown_stair(dice):
    base, step = dice.below(4), 1 + dice.below(4)
    return written_out({number for number in range(base + step) if dice.below(4)}, base, step)


class SeesClosed(unittest.TestCase):
    def sees(self, answered, house, stairs):
        with self.subTest(house=house, stairs=str(stairs)[:200]):
            self.assertIs(sees_closed(house, stairs), answered)

    def test_stairs_that_hold_nothing_or_all(self):
        for house in HOUSES + thrown_houses(71, 20):
            self.sees(True, house, [NOTHING] * house[0])
            self.sees(True, house, [ALL] * house[0])

    def test_the_stairs_forward_and_the_rest_of_those_backward(self):
        dice = Dice(72)
        for house in HOUSES + [late_ring(12), side_rings([3, 4], 1)] + thrown_houses(73, 60):
            for number in (0, dice.below(20), 1000):
                place = (dice.below(house[0]), number)
                self.assertIs(sees_closed(house, forward(house, place)), True)
                self.assertIs(sees_closed(house, [rest_of(stair) for stair in backward(house, place)]), True)

    def test_stairs_of_any_form(self):
        dice = Dice(74)
        for house in [PLAIN, MINGLED, late_ring(5)] + thrown_houses(75, 60):
            stairs = forward(house, (0, dice.below(5)))
            self.sees(True, house, [other_form(stair, dice) for stair in stairs])

    def test_thrown_stairs_number_by_number(self):
        dice = Dice(76)
        seen = {True: 0, False: 0}
        for _ in range(3000):
            house = thrown_house(dice, 1 + dice.below(3), 1 + dice.below(3))
            stairs = [thrown_stair(dice) for _ in range(house[0])]
            answered = closed_by_words(house, stairs)
            seen[answered] += 1
            self.sees(answered, house, stairs)
        self.assertGreater(min(seen.values()), 300)

    def test_closed_stairs_with_one_number_more_or_less(self):
        dice = Dice(77)
        seen = {True: 0, False: 0}
        for house in thrown_houses(78, 150):
            stairs = forward(house, (dice.below(house[0]), dice.below(4)))
            room = dice.below(house[0])
            base = stairs[room][0] + 6
            numbers = held(stairs[room], base + stairs[room][1]) ^ {dice.below(base)}
            stairs[room] = written_out(numbers, base, stairs[room][1])
            answered = closed_by_words(house, stairs)
            seen[answered] += 1
            self.sees(answered, house, stairs)
        self.assertGreater(min(seen.values()), 15)

    def test_a_way_that_leaves_at_one_number_alone(self):
        for deed in DEEDS:
            for number in (0, 1, 2, 9, 500, 2998):
                there = raised(deed, number)
                if there is None:
                    self.sees(True, one_way(deed), [only(number), NOTHING])
                else:
                    self.sees(False, one_way(deed), [only(number), all_but(there[1])])
                    self.sees(False, one_way(deed), [ALL, all_but(there[1])])
                    self.sees(False, one_way(deed), [only(number), NOTHING])
                    self.sees(True, one_way(deed), [all_but(number), all_but(there[1])])
                    self.sees(True, one_way(deed), [only(number), only(there[1])])

    def test_at_the_base_and_one_beside_it(self):
        for deed in ("up", "down", "stay"):
            for base in (1, 2, 7):
                for step in (1, 2, 5):
                    one = (base, step, (), (base,))
                    shift = {"up": 1, "down": -1, "stay": 0}[deed]
                    there = {number + shift for number in held(one, base + 3 * step)}
                    just = written_out(there, base + shift, step)
                    later = written_out(there - {base + shift}, base + shift + 1, step)
                    self.sees(True, one_way(deed), [one, just])
                    self.sees(False, one_way(deed), [one, later])

    def test_far_beyond_the_bases(self):
        # 24 and 35 first meet where both rests agree: one number of 840 alone
        for deed in ("up", "down", "stay"):
            for at in (0, 1, 24, 838, 839):
                one = (1, 24, (), tuple(n for n in range(1, 25) if n % 24 == at % 24))
                there = raised(deed, at + 840)[1]
                other = (1, 35, (0,), tuple(n for n in range(1, 36) if n % 35 != there % 35))
                self.sees(False, one_way(deed), [one, other])
                self.sees(True, one_way(deed), [one, ALL])
                self.sees(True, one_way(deed), [NOTHING, other])

    def test_far_beyond_by_one_turn_of_steps_that_share_a_divisor(self):
        for deed in ("up", "down", "stay"):
            shift = {"up": 1, "down": -1, "stay": 0}[deed]
            fours = (3000, 4, (), (3000,))
            sixes = {number + shift for number in range(3000, 3040) if number % 6 != 0}
            self.sees(False, one_way(deed), [fours, written_out(sixes, 3000 - 1, 6)])
            evens = {number + shift for number in range(2990, 3040, 2)}
            self.sees(True, one_way(deed), [fours, written_out(evens, 2995, 6)])

    def test_zero_ways_are_open_at_zero_alone(self):
        self.sees(True, one_way("zero"), [all_but(0), NOTHING])
        self.sees(False, one_way("zero"), [only(0), all_but(0)])
        self.sees(True, one_way("zero"), [ALL, only(0)])

    def test_ways_down_are_not_open_at_zero(self):
        self.sees(True, one_way("down"), [only(0), NOTHING])
        self.sees(False, one_way("down"), [only(1), NOTHING])

    def test_bases_of_three_thousand_and_steps_of_840_and_one_more(self):
        for stair in JUST_LET_BY:
            self.assertIs(sees_closed(LONE, [stair]), True)
        for stair in TOO_GREAT:
            self.assertIs(sees_closed(LONE, [stair]), False)
            self.assertIs(sees_closed((2, ()), [ALL, stair]), False)
            self.assertIs(sees_closed((2, ()), [stair, NOTHING]), False)
        self.sees(True, (1, ((0, "up", 0, "a"),)), [(3000, 840, (), tuple(range(3000, 3840)))])
        self.sees(False, (1, ((0, "up", 0, "a"),)), [(3000, 840, (), tuple(range(3000, 3839)))])
        self.sees(False, (1, ((0, "up", 0, "a"),)), [(3001, 1, (), (3001,))])

    def test_the_common_multiple_of_each_two_steps(self):
        def empty(*steps):
            return [(0, step, (), ()) for step in steps]
        self.sees(True, (2, ()), empty(24, 35))
        self.sees(True, (2, ()), empty(840, 840))
        self.sees(True, (2, ()), empty(840, 7))
        self.sees(False, (2, ()), empty(29, 30))
        self.sees(False, (2, ()), empty(840, 9))
        self.sees(False, (2, ()), empty(29, 29 * 29))
        self.sees(True, (3, ()), empty(40, 42, 36))
        self.sees(False, (3, ()), empty(29, 1, 30))
        self.sees(False, (3, ()), empty(1, 29, 30))
        self.sees(False, (3, ()), empty(30, 29, 1))
        self.sees(False, (3, ((0, "up", 0, "a"), (0, "stay", 1, "a"))), empty(2, 1, 841))

    def test_too_few_or_too_many_stairs(self):
        for house in HOUSES:
            for stair in (NOTHING, ALL):
                for count in range(15):
                    self.assertIs(sees_closed(house, [stair] * count), count == house[0])

    def test_no_house_and_no_stairs(self):
        for at, thing in enumerate(NO_HOUSES):
            with self.subTest(at):
                self.assertIs(sees_closed(thing, [ALL]), False)
                self.assertIs(sees_closed(thing, []), False)
                self.assertIs(sees_closed(thing, thing), False)
        for at, thing in enumerate(NO_STAIRS):
            with self.subTest(at):
                self.assertIs(sees_closed(LONE, [thing]), False)
                self.assertIs(sees_closed((2, ()), [ALL, thing]), False)
                self.assertIs(sees_closed((2, ()), [thing, NOTHING]), False)
                self.assertIs(sees_closed(LONE, thing), False)

    def test_lists_and_tuples_exchanged(self):
        self.sees(False, LONE, (ALL,))
        self.sees(False, LONE, [list(ALL)])
        self.sees(False, list(LONE), [ALL])
        self.sees(False, (2, ()), (ALL, ALL))
        self.sees(False, (2, []), [ALL, ALL])
        self.sees(False, LONE, ALL)
        self.sees(False, LONE, [[ALL]])

    def test_strange_things(self):
        for thing in STRANGE + [deep_within([], 3000), [deep_within(0, 3000)]]:
            self.assertIs(sees_closed(LONE, thing), False)
            self.assertIs(sees_closed(thing, [ALL]), False)
            self.assertIs(sees_closed(thing, thing), False)
            self.assertIs(sees_closed(LONE, [thing]), False)

    def test_what_is_handed_in_is_not_changed(self):
        stairs = [(6, 4, (4,), (6, 8)), (3, 2, (), (4,))]
        before = copy.deepcopy(stairs)
        sees_closed(one_way("stay"), stairs)
        sees_never(one_way("stay"), (0, 4), (1, 3), stairs)
        self.assertEqual(stairs, before)


class SeesNever(unittest.TestCase):
    house = (2, ((0, "up", 1, "a"), (1, "up", 0, "b"), (0, "down", 1, "c"), (1, "stay", 1, "d")))
    stairs = [(0, 2, (), (0,)), (0, 2, (), (1,))]

    def sees(self, answered, *things):
        with self.subTest(things=things):
            self.assertIs(sees_never(*things), answered)

    def test_some(self):
        self.sees(True, self.house, (0, 0), (0, 1), self.stairs)
        self.sees(True, self.house, (1, 1), (0, 1), self.stairs)
        self.sees(True, self.house, (0, 1000), (1, 1000), self.stairs)
        self.sees(True, self.house, (1, 999), (1, 0), self.stairs)
        self.sees(True, self.house, (0, 2), (0, 1), [(4, 6, (0, 2), (4, 6, 8)), (1, 4, (), (1, 3))])
        self.sees(True, LONE, (0, 0), (0, 1), [only(0)])
        self.sees(True, LONE, (0, 0), (0, 1), [all_but(1)])

    def test_the_places_number_and_the_goals(self):
        for place in places_of(self.house, 6):
            for goal in places_of(self.house, 6):
                answered = sum(place) % 2 == 0 and sum(goal) % 2 == 1
                self.sees(answered, self.house, place, goal, self.stairs)

    def test_stairs_that_a_way_leaves(self):
        self.sees(False, self.house, (0, 0), (0, 1), [(0, 2, (), (0,)), NOTHING])
        self.sees(False, self.house, (0, 0), (0, 1), [(2, 2, (0,), (2,)), (2, 2, (), (3,))])
        self.sees(False, (1, ((0, "up", 0, "a"),)), (0, 0), (0, 1000), [all_but(1000)])

    def test_numbers_of_a_thousand_and_one_more(self):
        house, stairs = (2, ()), [ALL, NOTHING]
        self.sees(True, house, (0, 1000), (1, 1000), stairs)
        self.sees(False, house, (0, 1001), (1, 1000), stairs)
        self.sees(False, house, (0, 1000), (1, 1001), stairs)
        self.sees(False, house, (0, FAR), (1, 0), stairs)
        self.sees(False, house, (0, 0), (1, FAR), stairs)

    def test_what_is_no_place(self):
        house, stairs = (3, ()), [ALL, NOTHING, NOTHING]
        self.sees(True, house, (0, 0), (1, 0), stairs)
        self.sees(True, house, (0, 1), (1, 1), stairs)
        wrongs = STRANGE + [
            [0, 1], (0, -1), (1, -1), (-1, 0), (-3, 0), (3, 0), (-FAR, 0), (0, -FAR), (0, True), (0, False), (True, 0),
            (False, 0), (True, True), (0, None), (None, 0), (0, "0"), ("0", 0), (0, (0,)), ((0,), 0), (0, [0]), (0,),
            (0, 1, 1), ((0, 1),), [(0, 1)], deep_within((0, 1), 3000), (0, deep_within(1, 3000)),
            (deep_within(0, 3000), 1),
        ]
        for thing in wrongs:
            self.assertIs(sees_never(house, thing, (1, 0), stairs), False)
            self.assertIs(sees_never(house, (0, 0), thing, stairs), False)
            self.assertIs(sees_never(house, thing, thing, stairs), False)

    def test_no_house_and_no_stairs(self):
        for thing in NO_HOUSES:
            self.assertIs(sees_never(thing, (0, 0), (0, 1), [only(0)]), False)
        for thing in NO_STAIRS + TOO_GREAT:
            self.assertIs(sees_never(LONE, (0, 0), (0, 1), [thing]), False)
            self.assertIs(sees_never((2, ()), (0, 0), (0, 1), [only(0), thing]), False)
            self.assertIs(sees_never(LONE, (0, 0), (0, 1), thing), False)
        self.sees(False, LONE, (0, 0), (0, 1), (only(0),))
        self.sees(False, LONE, (0, 0), (0, 1), [only(0), only(0)])
        self.sees(False, LONE, (0, 0), (0, 1), [])
        self.sees(False, (2, ()), (0, 0), (0, 1), [(3, 29, (0,), ()), (0, 30, (), ())])

    def test_strange_things_in_each_place(self):
        good = [LONE, (0, 0), (0, 1), [only(0)]]
        self.sees(True, *good)
        for thing in STRANGE + [deep_within([], 3000)]:
            for at in range(4):
                self.assertIs(sees_never(*(good[:at] + [thing] + good[at + 1:])), False)
            self.assertIs(sees_never(thing, thing, thing, thing), False)

    def test_where_it_sees_never_there_is_no_walk(self):
        dice = Dice(81)
        seen = 0
        for _ in range(2000):
            house = thrown_house(dice, 1 + dice.below(3), 1 + dice.below(4))
            stairs = [thrown_stair(dice) for _ in range(house[0])]
            place, goal = [(dice.below(house[0]), dice.below(6)) for _ in range(2)]
            answered = (
                closed_by_words(house, stairs)
                and place[1] in held(stairs[place[0]], 9)
                and goal[1] not in held(stairs[goal[0]], 9)
            )
            self.sees(answered, house, place, goal, stairs)
            if answered:
                seen += 1
                self.assertNotIn(goal, found_places(house, place, 9))
        self.assertGreater(seen, 50)


class Answer(Case):
    def agrees(self, house, place, goals):
        high = max(number for _, number in goals + [place]) + house[0] ** 2
        lengths = lengths_from(house[1], place, 0, high)
        stairs = forward(house, place)
        for goal in goals:
            with self.subTest(house=house, place=place, goal=goal):
                told = answer(house, place, goal)
                self.assertIsInstance(told, tuple)
                self.assertEqual(len(told), 2)
                if goal in lengths:
                    self.assertEqual(told[0], "walk")
                    self.assertIsInstance(told[1], list)
                    self.assertEqual(len(told[1]), lengths[goal])
                    self.assertEqual(went(house, place, told[1])[-1], goal)
                else:
                    self.assertEqual(told, ("never", stairs))
                    self.assertIs(sees_never(house, place, goal, told[1]), True)

    def test_some(self):
        self.assertEqual(answer(LONE, (0, 5), (0, 5)), ("walk", []))
        self.assertEqual(answer(LONE, (0, 5), (0, 6)), ("never", [only(5)]))
        self.assertEqual(answer(PLAIN, (1, 0), (1, 1)), ("walk", [1, 0]))
        self.assertEqual(answer(PLAIN, (0, 0), (1, 0)), ("never", [only(0), only(1)]))

    def test_against_a_search(self):
        for house in HOUSES[:7] + thrown_houses(91, 60):
            for place in places_of(house, 2):
                self.agrees(house, place, places_of(house, 5))

    def test_great_numbers_and_great_houses(self):
        dice = Dice(92)
        self.agrees(rings_house(5, 6, 1), (0, 1000), [(11, 0), (11, 1), (0, 999), (3, 1000), (5, 0)])
        self.agrees(late_ring(12), (0, 1000), [(0, 1000), (0, 999), (1, 1000)])
        self.agrees(late_ring(12), (0, 900), [(5, 1000), (0, 911), (0, 912)])
        self.agrees(full_house(), (3, 4), [(0, 0), (11, 20)])
        for _ in range(8):
            house = thrown_house(dice, 12, 18)
            self.agrees(house, (0, dice.below(30)), [(room, dice.below(60)) for room in range(12)])

    def test_the_stairs_forward_are_within_all_such_stairs(self):
        dice = Dice(93)
        seen = 0
        for _ in range(1500):
            house = thrown_house(dice, 2, 1 + dice.below(4))
            stairs = [thrown_stair(dice) for _ in range(2)]
            place = (dice.below(2), dice.below(4))
            if sees_closed(house, stairs) and place[1] in held(stairs[place[0]], 5):
                seen += 1
                for least_one, stair in zip(forward(house, place), stairs):
                    self.assertLessEqual(held(least_one, 60), held(stair, 60))
        self.assertGreater(seen, 100)

    def test_told_lists_are_the_askers_own(self):
        told = answer(PLAIN, (1, 0), (1, 1))
        told[1].append(9)
        self.assertEqual(answer(PLAIN, (1, 0), (1, 1)), ("walk", [1, 0]))
        told = answer(LONE, (0, 5), (0, 6))
        told[1][0] = None
        self.assertEqual(answer(LONE, (0, 5), (0, 6)), ("never", [only(5)]))
        self.assertEqual(forward(LONE, (0, 5)), [only(5)])

    def test_refusals_of_two_places(self):
        for wrong in ((2, 0), (-1, 0), (0, -1), (5, 1001), (1, -FAR)):
            self.refused(NoPlace, answer, PLAIN, wrong, (0, 0))
            self.refused(NoPlace, answer, PLAIN, (0, 0), wrong)
            self.refused(NoPlace, answer, PLAIN, wrong, (0, 1001))
            self.refused(NoPlace, answer, PLAIN, (0, 1001), wrong)
        self.refused(TooGreat, answer, PLAIN, (0, 1001), (0, 0))
        self.refused(TooGreat, answer, PLAIN, (0, 0), (0, 1001))
        self.refused(TooGreat, answer, PLAIN, (0, 1001), (0, 1001))


if __name__ == "__main__":
    unittest.main()
