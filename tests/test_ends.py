import copy
import unittest

from stairrooms.ends import fate, ranks, sees_same, stops
from stairrooms.errors import Endless, NoHouse, NoPlace, TooGreat
from stairrooms.stairs import is_stair, least
from stairrooms.tops import greatest, sees_rise
from tests.helper import (
    ALL, DEEDS, HOUSES, LONE, MINGLED, NO_HOUSES, NOTHING, PLAIN, STRANGE, Case, Dice, deep_within, found_places,
    full_house, gone, held, late_ring, longest_from, numbers_of_rooms, places_of, rings_house, rises_by_words,
    side_rings, stays_by_words, thrown_house, thrown_houses,
)

FAR = 10 ** 59
LOOP = (1, ((0, "up", 0, "a"), (0, "down", 0, "b"), (0, "stay", 0, "c"), (0, "zero", 0, "d")))
DOWN = (1, ((0, "down", 0, "a"),))
# down, at 0 through a zero way, and there up and down for ever
ZERO_RING = (3, ((0, "down", 0, "d"), (0, "zero", 1, "z"), (1, "up", 2, "u"), (2, "down", 1, "d")))
# a ring that is come round to by a zero way alone
THROUGH_ZERO = (2, ((0, "down", 0, "d"), (0, "zero", 1, "z"), (1, "stay", 0, "s")))
# behind a zero way a ring that rises
RISE_BEHIND = (2, ((0, "down", 0, "d"), (0, "zero", 1, "z"), (1, "up", 1, "u")))
# each turn of the ring leads down by one, and costs three ways
SINKING = (3, ((0, "up", 1, "u"), (1, "down", 2, "d"), (2, "down", 0, "d")))
# down to 0, where one of three ends is chosen by the number that it began with
FALLS = (5, ((0, "down", 1, "d"), (1, "down", 2, "d"), (2, "down", 0, "d"), (1, "zero", 3, "z"), (3, "up", 4, "u")))


def chain(many, deed):
    return (many, tuple((room, deed, room + 1, "a") for room in range(many - 1)))


def downhill(dice, many, count):
    """A house in which most ways lead on to a greater room or down: often all walks end."""
    ways = []
    for _ in range(count):
        low, high = sorted([dice.below(many), dice.below(many)])
        way = (high, "down", low, dice.of("abc")) if low == high else (low, dice.of(DEEDS), high, dice.of("abc"))
        if dice.below(3) == 0:
            way = (high, "down", low, "d")
        if way not in ways:
            ways.append(way)
    return (many, tuple(ways))


class SeesSame(unittest.TestCase):
    def sees(self, answered, *things):
        with self.subTest(things=str(things)[:300]):
            self.assertIs(sees_same(*things), answered)

    def test_rings_that_stay(self):
        self.sees(True, LOOP, (0, 0), [], [2])
        self.sees(True, LOOP, (0, 0), [], [3])
        self.sees(True, LOOP, (0, 0), [], [0, 1])
        self.sees(True, LOOP, (0, 1), [], [1, 0])
        self.sees(True, LOOP, (0, 1), [], [1, 3, 0])
        self.sees(True, LOOP, (0, 3), [1, 1, 1], [3, 3, 0, 1])
        self.sees(True, ZERO_RING, (0, 2), [0, 0, 1], [2, 3])
        self.sees(True, ZERO_RING, (0, 2), [0, 0, 1, 2], [3, 2])
        self.sees(True, THROUGH_ZERO, (0, 0), [], [1, 2])
        self.sees(True, LOOP, (0, 1000), [0], [0, 1, 1, 0])

    def test_the_empty_ring(self):
        self.sees(False, LOOP, (0, 0), [], [])
        self.sees(False, LOOP, (0, 0), [2, 0], [])
        self.sees(False, LONE, (0, 0), [], [])

    def test_a_ring_that_leads_elsewhere(self):
        self.sees(False, LOOP, (0, 0), [], [0])
        self.sees(False, LOOP, (0, 1), [], [1])
        self.sees(False, LOOP, (0, 1), [], [0, 2, 0, 1])
        self.sees(False, ZERO_RING, (0, 0), [1], [2])
        self.sees(False, ZERO_RING, (0, 0), [], [1])
        self.sees(False, (2, ((0, "stay", 1, "a"), (1, "stay", 0, "a"))), (0, 4), [], [0])
        self.sees(True, (2, ((0, "stay", 1, "a"), (1, "stay", 0, "a"))), (0, 4), [], [0, 1])
        # back to where the walk began, not to where it leads
        self.sees(False, LOOP, (0, 1), [0], [1])

    def test_what_can_not_be_walked(self):
        self.sees(False, LOOP, (0, 0), [1], [2])
        self.sees(False, LOOP, (0, 1), [3], [2])
        self.sees(False, LOOP, (0, 0), [], [1, 0])
        self.sees(False, LOOP, (0, 1), [], [3])
        self.sees(False, LOOP, (0, 1), [], [2, 3])
        for count in (-1, -2, 4, FAR, -FAR):
            self.sees(False, LOOP, (0, 0), [count], [2])
            self.sees(False, LOOP, (0, 0), [2, count], [2])
            self.sees(False, LOOP, (0, 0), [], [count])
            self.sees(False, LOOP, (0, 0), [], [2, count])
            self.sees(False, LOOP, (0, 0), [], [count, 2])

    def test_truths_and_others_for_counts_and_tuples_for_lists(self):
        stays = (1, ((0, "stay", 0, "a"), (0, "stay", 0, "b")))
        self.sees(True, stays, (0, 0), [1, 0], [0, 1])
        for thing in (True, False, None, "0", "", (0,), [0], [], ()):
            self.sees(False, stays, (0, 0), [thing], [0])
            self.sees(False, stays, (0, 0), [], [thing])
            self.sees(False, stays, (0, 0), [0, thing], [0])
            self.sees(False, stays, (0, 0), [], [0, thing])
        for thing in ((0,), (), "0", "", 0, None, True, False):
            self.sees(False, stays, (0, 0), thing, [0])
            self.sees(False, stays, (0, 0), [0], thing)

    def test_twenty_thousand_ways_and_one_more(self):
        self.sees(True, LOOP, (0, 0), [0] * 20000, [1, 0] * 10000)
        self.sees(False, LOOP, (0, 0), [2] * 20001, [2])
        self.sees(False, LOOP, (0, 0), [2], [2] * 20001)

    def test_no_house_no_place_and_strange_things(self):
        for thing in NO_HOUSES:
            self.assertIs(sees_same(thing, (0, 0), [], [0]), False)
        for place in ((0, 1001), (0, FAR), (0, -1), (1, 0), (-1, 0), (0, True), (False, 0), (0, None), (0,), [0, 0]):
            self.sees(False, LOOP, place, [], [2])
        self.sees(True, LOOP, (0, 1000), [], [2])
        good = [LOOP, (0, 0), [3], [3]]
        for thing in STRANGE + [deep_within([], 3000), [deep_within(0, 3000)]]:
            for at in range(4):
                if at != 2 or thing != [0, 0]:
                    self.assertIs(sees_same(*(good[:at] + [thing] + good[at + 1:])), False)
            self.assertIs(sees_same(thing, thing, thing, thing), False)

    def test_thrown_walks_and_rings_by_the_words_of_the_document(self):
        dice = Dice(131)
        seen = {True: 0, False: 0}
        for _ in range(6000):
            house = thrown_house(dice, 1 + dice.below(2), 4 + dice.below(6))
            place = (dice.below(house[0]), dice.below(3))
            at, walk = place, []
            for _ in range(dice.below(7)):
                ways = [n for n, way in enumerate(house[1]) if gone(way, at) is not None]
                if ways:
                    walk.append(dice.of(ways))
                    at = gone(house[1][walk[-1]], at)
            if dice.below(8) == 0:
                walk.append(dice.below(len(house[1]) + 2) - 1)
            cut = dice.below(len(walk) + 1)
            answered = stays_by_words(house, place, walk[:cut], walk[cut:])
            seen[answered] += 1
            self.sees(answered, house, place, walk[:cut], walk[cut:])
        self.assertGreater(min(seen.values()), 300)

    def test_what_is_handed_in_is_not_changed(self):
        walk, ring = [3, 0], [0, 1]
        self.sees(True, LOOP, (0, 0), walk, ring)
        self.assertEqual((walk, ring), ([3, 0], [0, 1]))


class Stops(Case):
    def agrees(self, house, place, top):
        found = {at for at in found_places(house, place, top) if all(gone(way, at) is None for way in house[1])}
        told = stops(house, place)
        with self.subTest(house=house, place=place):
            self.assertIsInstance(told, list)
            self.assertEqual(len(told), house[0])
            for stair, numbers in zip(told, numbers_of_rooms(house, found)):
                self.assertIs(is_stair(stair), True)
                self.assertEqual(least(stair), stair)
                self.assertTrue(held(stair, top + 1) == numbers, "other numbers than the search found")

    def test_some(self):
        self.assertEqual(stops(LONE, (0, 5)), [(6, 1, (5,), ())])
        self.assertEqual(stops(PLAIN, (0, 0)), [NOTHING, (2, 1, (1,), ())])
        self.assertEqual(stops(DOWN, (0, 1000)), [(1, 1, (0,), ())])
        self.assertEqual(stops(LOOP, (0, 3)), [NOTHING])
        rising = (2, ((0, "up", 0, "a"), (0, "stay", 1, "a")))
        self.assertEqual(stops(rising, (0, 0)), [NOTHING, ALL])
        self.assertEqual(stops((2, rising[1] + ((1, "zero", 1, "z"),)), (0, 0)), [NOTHING, (1, 1, (), (1,))])
        self.assertEqual(stops((2, rising[1] + ((1, "down", 1, "d"),)), (0, 0)), [NOTHING, (1, 1, (0,), ())])
        both = rising[1] + ((1, "down", 1, "d"), (1, "zero", 1, "z"))
        self.assertEqual(stops((2, both), (0, 0)), [NOTHING, NOTHING])

    def test_against_a_search(self):
        for house in HOUSES[:7] + [ZERO_RING, RISE_BEHIND, FALLS] + thrown_houses(132, 120):
            for place in places_of(house, 3):
                self.agrees(house, place, place[1] + 40)

    def test_few_ways_against_a_search(self):
        dice = Dice(133)
        for _ in range(80):
            house = thrown_house(dice, 2 + dice.below(4), 1 + dice.below(5))
            self.agrees(house, (dice.below(house[0]), dice.below(9)), 60)

    def test_great_houses_and_numbers(self):
        dice = Dice(134)
        for house in (rings_house(5, 6, 1), side_rings([5, 6], 1), late_ring(12), FALLS, full_house()):
            self.agrees(house, (0, 1000), 1200)
            self.agrees(house, (0, dice.below(900)), 1200)

    def test_a_told_list_is_the_askers_own(self):
        told = stops(PLAIN, (0, 0))
        told[0] = 7
        told.append(ALL)
        self.assertEqual(stops(PLAIN, (0, 0)), [NOTHING, (2, 1, (1,), ())])


class Fate(Case):
    def agrees(self, house, place):
        longest = longest_from(house, place)
        told = fate(house, place)
        with self.subTest(house=house, place=place):
            self.assertIsInstance(told, tuple)
            if longest is not None:
                self.assertEqual(told, ("ends", longest))
            else:
                self.is_endless(house, place, told)
        return told[0]

    def is_endless(self, house, place, told):
        kind, walk, ring = told
        self.assertIn(kind, ("same", "rises"))
        self.assertIsInstance(walk, list)
        self.assertIsInstance(ring, list)
        self.assertLessEqual(max(len(walk), len(ring)), 20000)
        by_words, sees = {"same": (stays_by_words, sees_same), "rises": (rises_by_words, sees_rise)}[kind]
        self.assertIs(by_words(house, place, walk, ring), True)
        self.assertIs(sees(house, place, walk, ring), True)

    def test_some(self):
        self.assertEqual(fate(LONE, (0, 0)), ("ends", 0))
        self.assertEqual(fate(LONE, (0, 1000)), ("ends", 0))
        self.assertEqual(fate(PLAIN, (1, 0)), ("ends", 2))
        self.assertEqual(fate(PLAIN, (1, 1)), ("ends", 0))
        self.assertEqual(fate(DOWN, (0, 1000)), ("ends", 1000))
        self.assertEqual(fate(SINKING, (0, 0)), ("ends", 2))
        self.assertEqual(fate(SINKING, (0, 10)), ("ends", 32))
        self.assertEqual(fate((1, ((0, "stay", 0, "a"),)), (0, 3)), ("same", [], [0]))
        self.assertEqual(fate((1, ((0, "up", 0, "a"),)), (0, 3)), ("rises", [], [0]))
        self.assertEqual(fate((1, ((0, "zero", 0, "a"), (0, "down", 0, "a"))), (0, 2)), ("same", [1, 1], [0]))
        self.assertEqual(fate((1, ((0, "zero", 0, "a"),)), (0, 2)), ("ends", 0))

    def test_of_two_ways_the_longer_walk(self):
        ways = ((0, "stay", 4, "a"), (0, "stay", 1, "b"), (1, "stay", 2, "a"), (2, "stay", 4, "a"), (1, "stay", 4, "c"))
        house = (5, ways)
        self.assertEqual(fate(house, (0, 0)), ("ends", 3))
        self.assertEqual(fate(house, (1, 9)), ("ends", 2))
        self.assertEqual(fate(house, (4, 9)), ("ends", 0))

    def test_all_small_places_of_many_houses(self):
        kinds = []
        named = [LOOP, ZERO_RING, THROUGH_ZERO, RISE_BEHIND, SINKING, FALLS]
        for house in HOUSES[:7] + named + thrown_houses(135, 150):
            for place in places_of(house, 3):
                kinds.append(self.agrees(house, place))
        for kind in ("ends", "same", "rises"):
            self.assertGreater(kinds.count(kind), 50)

    def test_houses_with_few_ways(self):
        dice = Dice(136)
        for _ in range(150):
            house = thrown_house(dice, 2 + dice.below(5), 2 + dice.below(6))
            self.agrees(house, (dice.below(house[0]), dice.below(8)))

    def test_houses_whose_walks_end_only_because_a_number_runs_down(self):
        dice = Dice(137)
        numbers = (0, 1, 2, 3, 20, 333)
        kinds = [self.agrees(house, (0, number)) for house in (DOWN, SINKING, FALLS) for number in numbers]
        self.assertEqual(set(kinds), {"ends"})
        for _ in range(60):
            house = downhill(dice, 2 + dice.below(6), 3 + dice.below(12))
            self.agrees(house, (0, dice.below(20)))

    def test_numbers_to_a_thousand(self):
        for house in (DOWN, SINKING, FALLS, ZERO_RING, THROUGH_ZERO, RISE_BEHIND, PLAIN):
            for number in (999, 1000):
                told = fate(house, (0, number))
                if told[0] == "ends":
                    self.assertEqual(told, ("ends", longest_from(house, (0, number))))
                else:
                    self.is_endless(house, (0, number), told)
        self.assertEqual(fate(SINKING, (0, 1000)), ("ends", 3002))
        self.assertEqual(fate(ZERO_RING, (0, 1000))[0], "same")
        self.assertEqual(fate(THROUGH_ZERO, (0, 1000))[0], "same")
        self.assertEqual(fate(RISE_BEHIND, (0, 1000))[0], "rises")

    def test_long_walks_and_long_rings(self):
        # twelve rooms: each turn leads round through all of them and down by one
        ways = tuple((r, "stay" if r < 11 else "down", (r + 1) % 12, "a") for r in range(12))
        self.assertEqual(fate((12, ways), (0, 1000)), ("ends", 12011))
        kind, walk, ring = fate((12, ways + ((11, "zero", 0, "z"),)), (0, 1000))
        self.assertEqual(kind, "same")
        self.is_endless((12, ways + ((11, "zero", 0, "z"),)), (0, 1000), (kind, walk, ring))
        up_and_down = [(0, "down", 0, "d"), (0, "zero", 1, "z")] + [(r, "up", r + 1, "u") for r in range(1, 11)]
        self.assertEqual(fate((12, tuple(up_and_down)), (0, 1000)), ("ends", 1011))

    def test_rings_behind_zero_ways(self):
        for number in (0, 1, 5, 60):
            self.assertEqual(self.agrees(ZERO_RING, (0, number)), "same")
            self.assertEqual(self.agrees(THROUGH_ZERO, (0, number)), "same")
            self.assertEqual(self.agrees(RISE_BEHIND, (0, number)), "rises")

    def test_where_numbers_are_unbounded_there_is_no_end(self):
        for house in thrown_houses(138, 150):
            for place in places_of(house, 2):
                if greatest(house, place)[0] == "rises":
                    self.assertNotEqual(fate(house, place)[0], "ends")

    def test_told_lists_are_the_askers_own(self):
        for house, place in ((ZERO_RING, (0, 2)), (RISE_BEHIND, (0, 2))):
            before = copy.deepcopy(fate(house, place))
            told = fate(house, place)
            told[1].append(9)
            told[2].clear()
            self.assertEqual(fate(house, place), before)


class Ranks(Case):
    def agrees(self, house, place):
        if longest_from(house, place) is None:
            with self.subTest(house=house, place=place):
                self.refused(Endless, ranks, house, place)
            return "endless"
        found = found_places(house, place, place[1] + house[0])
        told = ranks(house, place)
        with self.subTest(house=house, place=place):
            self.assertIsInstance(told, list)
            self.assertEqual(told, sorted((place[0], place[1], longest_from(house, place)) for place in found))
        return "ends"

    def test_some(self):
        self.assertEqual(ranks(LONE, (0, 7)), [(0, 7, 0)])
        self.assertEqual(ranks(PLAIN, (1, 0)), [(0, 0, 1), (1, 0, 2), (1, 1, 0)])
        self.assertEqual(ranks(DOWN, (0, 3)), [(0, 0, 0), (0, 1, 1), (0, 2, 2), (0, 3, 3)])
        self.assertEqual(ranks(SINKING, (0, 1)), [(0, 0, 2), (0, 1, 5), (1, 1, 1), (1, 2, 4), (2, 0, 0), (2, 1, 3)])

    def test_against_a_search(self):
        kinds = []
        for house in HOUSES[:7] + [ZERO_RING, THROUGH_ZERO, RISE_BEHIND, SINKING, FALLS] + thrown_houses(139, 100):
            for place in places_of(house, 3):
                kinds.append(self.agrees(house, place))
        dice = Dice(140)
        for _ in range(60):
            house = downhill(dice, 2 + dice.below(5), 3 + dice.below(9))
            kinds.append(self.agrees(house, (0, dice.below(9))))
        self.assertGreater(min(kinds.count("ends"), kinds.count("endless")), 100)

    def test_rising_and_each_place_once(self):
        dice = Dice(141)
        for _ in range(40):
            house = downhill(dice, 6, 14)
            if fate(house, (0, 12))[0] == "ends":
                told = ranks(house, (0, 12))
                self.assertEqual(told, sorted(told))
                self.assertEqual(len({(room, number) for room, number, _ in told}), len(told))
                self.assertIn((0, 12, fate(house, (0, 12))[1]), told)

    def test_numbers_of_two_hundred_and_one_more(self):
        self.assertEqual(ranks(DOWN, (0, 200)), [(0, number, number) for number in range(201)])
        self.assertEqual(ranks(LONE, (0, 200)), [(0, 200, 0)])
        for house in (DOWN, LONE, LOOP, MINGLED, full_house()):
            self.refused(TooGreat, ranks, house, (0, 201))
            self.refused(TooGreat, ranks, house, (0, 1000))
            self.refused(TooGreat, ranks, house, (0, 1001))
            self.refused(TooGreat, ranks, house, (0, FAR))
        self.agrees(SINKING, (0, 30))
        self.assertEqual(ranks(SINKING, (0, 200))[200], (0, 200, 602))
        self.refused(Endless, ranks, LOOP, (0, 200))

    def test_numbers_above_two_hundred_may_be_met(self):
        self.assertEqual(ranks(chain(4, "up"), (0, 199)), [(0, 199, 3), (1, 200, 2), (2, 201, 1), (3, 202, 0)])

    def test_endless(self):
        for house, place in ((LOOP, (0, 0)), (ZERO_RING, (0, 5)), (RISE_BEHIND, (0, 5)), (THROUGH_ZERO, (0, 0))):
            for _ in range(2):
                self.refused(Endless, ranks, house, place)
        self.assertEqual(ranks(RISE_BEHIND[:1] + (RISE_BEHIND[1][:2],), (0, 1)), [(0, 0, 1), (0, 1, 2), (1, 0, 0)])

    def test_which_refusal_goes_first(self):
        for thing in NO_HOUSES:
            self.refused(NoHouse, ranks, thing, (0, 201))
            self.refused(NoHouse, ranks, thing, (0, -1))
        for place in ((1, 0), (1, 201), (1, 1001), (0, -1), (-1, 201)):
            self.refused(NoPlace, ranks, LOOP, place)
        self.refused(TooGreat, ranks, LOOP, (0, 201))

    def test_a_told_list_is_the_askers_own(self):
        told = ranks(PLAIN, (1, 0))
        told.clear()
        self.assertEqual(ranks(PLAIN, (1, 0)), [(0, 0, 1), (1, 0, 2), (1, 1, 0)])


if __name__ == "__main__":
    unittest.main()
