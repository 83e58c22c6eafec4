import copy
import unittest

from stairrooms.errors import NoHouse, NoPlace, TooGreat
from stairrooms.forward import forward, rooms_at
from stairrooms.houses import turned_about
from stairrooms.tops import greatest, sees_rise
from tests.helper import (
    DEEDS, HOUSES, LONE, MINGLED, NO_HOUSES, PLAIN, STRANGE, Case, Dice, deep_within, found_places, full_house, gone,
    late_ring, places_of, rings_house, rises_by_words, side_rings, thrown_house, thrown_houses, went,
)

FAR = 10 ** 59
LOOP = (1, ((0, "up", 0, "a"), (0, "down", 0, "b"), (0, "stay", 0, "c"), (0, "zero", 0, "d")))
BEHIND_ZERO = (2, ((0, "down", 0, "d"), (0, "zero", 1, "z"), (1, "up", 1, "u")))
BEHIND_DOWN = (3, ((0, "down", 1, "d"), (1, "down", 2, "d"), (2, "up", 2, "u")))
# a ring with a zero way in it, which goes up but once
ZERO_IN_THE_RING = (2, ((0, "up", 1, "u"), (1, "zero", 0, "z")))
# a ring that leads down by one more than up
SINKING = (3, ((0, "up", 1, "u"), (1, "down", 2, "d"), (2, "down", 0, "d")))


def chain(many, deed="up"):
    return (many, tuple((room, deed, room + 1, "a") for room in range(many - 1)))


class Greatest(Case):
    def agrees(self, house, place):
        high = place[1] + house[0]
        sought = found_places(house, place, high)
        told = greatest(house, place)
        with self.subTest(house=house, place=place):
            self.assertIsInstance(told, tuple)
            self.assertEqual(len(told), 3)
            if any(number == high for _, number in sought):
                self.rises(house, place, told)
            else:
                self.is_most(house, place, told, max(number for _, number in sought))

    def rises(self, house, place, told):
        kind, walk, ring = told
        self.assertEqual(kind, "rises")
        self.assertIsInstance(walk, list)
        self.assertIsInstance(ring, list)
        self.assertLessEqual(max(len(walk), len(ring)), 20000)
        self.assertIs(rises_by_words(house, place, walk, ring), True)
        self.assertIs(sees_rise(house, place, walk, ring), True)

    def is_most(self, house, place, told, number):
        kind, most, walk = told
        self.assertEqual((kind, most), ("most", number))
        self.assertIsInstance(walk, list)
        self.assertLessEqual(len(walk), 20000)
        self.assertEqual(went(house, place, walk)[-1][1], number)

    def test_some(self):
        self.assertEqual(greatest(LONE, (0, 0)), ("most", 0, []))
        self.assertEqual(greatest(LONE, (0, 1000)), ("most", 1000, []))
        self.assertEqual(greatest(PLAIN, (0, 3)), ("most", 4, [0]))
        self.assertEqual(greatest(PLAIN, (1, 3)), ("most", 3, []))
        self.assertEqual(greatest(PLAIN, (1, 0)), ("most", 1, [1, 0]))
        self.assertEqual(greatest((1, ((0, "up", 0, "a"),)), (0, 1000)), ("rises", [], [0]))
        self.assertEqual(greatest(chain(12), (0, 5)), ("most", 16, list(range(11))))

    def test_all_small_places_of_many_houses(self):
        for house in HOUSES[:7] + [LOOP, BEHIND_ZERO, BEHIND_DOWN, ZERO_IN_THE_RING, SINKING] + thrown_houses(111, 200):
            for place in places_of(house, 3):
                self.agrees(house, place)

    def test_both_kinds_are_told_often(self):
        told = [greatest(house, (0, 1))[0] for house in thrown_houses(111, 200)]
        self.assertGreater(min(told.count("most"), told.count("rises")), 50)

    def test_greater_numbers_and_greater_houses(self):
        dice = Dice(112)
        for house in thrown_houses(113, 60):
            self.agrees(house, (dice.below(house[0]), dice.below(40)))
        for count in (6, 10, 14, 18, 25, 40, 100):
            for deeds in (DEEDS, ["up", "down", "zero"], ["down", "down", "up", "zero", "stay"]):
                for _ in range(3):
                    self.agrees(thrown_house(dice, 12, count, deeds), (dice.below(12), dice.below(30)))

    def test_numbers_to_a_thousand(self):
        houses = [MINGLED, BEHIND_ZERO, BEHIND_DOWN, ZERO_IN_THE_RING, SINKING, rings_house(5, 6, 1), late_ring(12)]
        houses += [turned_about(rings_house(5, 6, 1)), turned_about(late_ring(12)), full_house(), chain(12)]
        for house in houses:
            for place in ((0, 999), (0, 1000), (house[0] - 1, 1000)):
                self.agrees(house, place)
        self.assertEqual(greatest(chain(12), (0, 1000))[:2], ("most", 1011))

    def test_rings_that_rise_only_behind_a_zero_way(self):
        for number in (0, 1, 7, 1000):
            kind, walk, ring = greatest(BEHIND_ZERO, (0, number))
            self.assertEqual(kind, "rises")
            self.assertIn(1, walk)
            self.assertTrue(rises_by_words(BEHIND_ZERO, (0, number), walk, ring))
        self.agrees(BEHIND_ZERO, (1, 1000))

    def test_rings_that_rise_only_behind_a_way_down(self):
        self.assertEqual(greatest(BEHIND_DOWN, (0, 0)), ("most", 0, []))
        self.assertEqual(greatest(BEHIND_DOWN, (0, 1))[:2], ("most", 1))
        for number in (2, 3, 1000):
            kind, walk, ring = greatest(BEHIND_DOWN, (0, number))
            self.assertEqual((kind, walk[:2]), ("rises", [0, 1]))
            self.assertTrue(rises_by_words(BEHIND_DOWN, (0, number), walk, ring))

    def test_a_zero_way_in_the_ring_alone_does_not_rise(self):
        self.assertEqual(greatest(ZERO_IN_THE_RING, (0, 0)), ("most", 1, [0]))
        self.assertEqual(greatest(ZERO_IN_THE_RING, (1, 0))[:2], ("most", 1))

    def test_the_greatest_number_may_lie_behind_a_zero_way_or_far_down(self):
        ways = ((0, "up", 1, "u"), (1, "down", 0, "d"), (0, "down", 0, "d"), (0, "zero", 2, "z"))
        house = (5, ways + ((2, "up", 3, "u"), (3, "up", 4, "u")))
        self.assertEqual(greatest(house, (0, 0))[:2], ("most", 2))
        self.assertEqual(greatest(house, (0, 1))[:2], ("most", 2))
        self.assertEqual(greatest(house, (0, 2))[:2], ("most", 3))
        for number in (0, 1, 2, 30):
            self.agrees(house, (0, number))

    def test_the_bound(self):
        # bounded just where no room can be come to with the number c + n
        for house in [chain(many) for many in range(1, 13)] + [late_ring(12), SINKING] + thrown_houses(114, 150):
            for number in (0, 1, 6):
                kind = greatest(house, (0, number))[0]
                rooms = rooms_at(house, (0, number), number + house[0])
                endless = any(again for _, _, _, again in forward(house, (0, number)))
                with self.subTest(house=house, number=number):
                    self.assertEqual(kind, "rises" if rooms else "most")
                    self.assertEqual(bool(rooms), endless)

    def test_just_below_the_bound_nothing_is_told_to_rise(self):
        for many in range(1, 13):
            for number in (0, 1, 1000):
                self.assertEqual(greatest(chain(many), (0, number))[:2], ("most", number + many - 1))

    def test_long_rings(self):
        for house in (side_rings([12], 0), late_ring(12), side_rings([5, 6], 1)):
            for number in (0, 3, 1000):
                self.agrees(house, (0, number))
        climb = [(r, "up", (r + 1) % 7, "u") for r in range(7)] + [(0, "down", 7, "d")]
        climb += [(7 + r, "down", (8 + r) if r < 4 else 0, "d") for r in range(5)]
        self.agrees((12, tuple(climb)), (0, 900))

    def test_told_lists_are_the_askers_own(self):
        for house, place in ((PLAIN, (1, 0)), (BEHIND_ZERO, (0, 2)), (LONE, (0, 0))):
            before = copy.deepcopy(greatest(house, place))
            told = greatest(house, place)
            for part in told:
                if isinstance(part, list):
                    part.append(7)
                    part[0] = -1
            self.assertEqual(greatest(house, place), before)

    def test_refusals_in_their_order(self):
        for thing in NO_HOUSES:
            for place in ((0, 0), (0, -1), (0, 1001)):
                self.refused(NoHouse, greatest, thing, place)
        for place in ((2, 0), (-1, 0), (0, -1), (2, 1001), (FAR, FAR), (1, -FAR)):
            self.refused(NoPlace, greatest, PLAIN, place)
        for place in ((0, 1001), (1, FAR)):
            self.refused(TooGreat, greatest, PLAIN, place)


class SeesRise(unittest.TestCase):
    def sees(self, answered, *things):
        with self.subTest(things=str(things)[:300]):
            self.assertIs(sees_rise(*things), answered)

    def test_some(self):
        self.sees(True, LOOP, (0, 0), [], [0])
        self.sees(True, LOOP, (0, 0), [3, 2], [0, 0, 1])
        self.sees(True, LOOP, (0, 5), [1, 1], [2, 0, 2, 1, 0, 0])
        self.sees(True, BEHIND_ZERO, (0, 2), [0, 0, 1], [2])
        self.sees(True, BEHIND_ZERO, (0, 2), [0, 0, 1, 2], [2, 2])
        self.sees(True, LOOP, (0, 1000), [0, 0], [0])
        self.sees(True, late_ring(3), (0, 0), [], [0, 1, 2])

    def test_the_empty_ring(self):
        self.sees(False, LOOP, (0, 0), [], [])
        self.sees(False, LOOP, (0, 0), [0], [])

    def test_a_ring_that_goes_below(self):
        self.sees(False, LOOP, (0, 1), [], [1, 0, 0])
        self.sees(False, LOOP, (0, 1), [], [0, 1, 1, 0, 0, 0])
        self.sees(True, LOOP, (0, 1), [], [0, 1, 0, 0])
        self.sees(True, LOOP, (0, 1), [1], [0, 0])
        self.sees(False, LOOP, (0, 0), [0, 0], [1, 1, 0, 0, 0])

    def test_a_ring_that_goes_a_zero_way(self):
        self.sees(False, LOOP, (0, 0), [], [3, 0])
        self.sees(False, LOOP, (0, 0), [], [0, 1, 3, 0])
        self.sees(True, LOOP, (0, 0), [3], [0])
        self.sees(False, (2, ((0, "up", 0, "u"), (0, "zero", 1, "z"), (1, "stay", 0, "s"))), (0, 0), [], [1, 2, 0])

    def test_a_ring_that_leads_to_another_room(self):
        house = (2, ((0, "up", 1, "u"), (1, "up", 0, "u"), (1, "stay", 0, "s")))
        self.sees(False, house, (0, 0), [], [0])
        self.sees(True, house, (0, 0), [], [0, 1])
        self.sees(True, house, (0, 0), [], [0, 2])
        self.sees(False, house, (0, 0), [0], [2])
        self.sees(False, house, (0, 0), [], [0, 1, 0])

    def test_a_ring_that_leads_to_the_same_number_or_below(self):
        self.sees(False, LOOP, (0, 1), [], [2])
        self.sees(False, LOOP, (0, 1), [], [0, 1])
        self.sees(False, LOOP, (0, 1), [], [1])
        self.sees(False, LOOP, (0, 0), [], [3])

    def test_what_can_not_be_walked(self):
        self.sees(False, LOOP, (0, 0), [1], [0])
        self.sees(False, LOOP, (0, 1), [3], [0])
        self.sees(False, LOOP, (0, 0), [0, 3], [0])
        self.sees(False, LOOP, (0, 0), [], [1, 0, 0])
        self.sees(False, LOOP, (0, 0), [], [0, 1, 1])
        self.sees(False, LOOP, (0, 0), [], [0, 3])
        for count in (-1, -4, 4, 5, FAR, -FAR):
            self.sees(False, LOOP, (0, 0), [count], [0])
            self.sees(False, LOOP, (0, 0), [0, count], [0])
            self.sees(False, LOOP, (0, 0), [], [count])
            self.sees(False, LOOP, (0, 0), [], [0, count])
            self.sees(False, LOOP, (0, 0), [], [count, 0])
        self.sees(False, LONE, (0, 0), [], [0])

    def test_counts_below_zero_do_not_count_from_the_end(self):
        ups = (1, ((0, "up", 0, "a"), (0, "up", 0, "b")))
        self.sees(True, ups, (0, 0), [1], [1])
        self.sees(False, ups, (0, 0), [-1], [1])
        self.sees(False, ups, (0, 0), [1], [-1])

    def test_truths_and_other_things_for_counts(self):
        ups = (1, ((0, "up", 0, "a"), (0, "up", 0, "b")))
        for thing in (True, False, None, "0", "", (0,), [0], [], (), deep_within(0, 50)):
            self.sees(False, ups, (0, 0), [thing], [0])
            self.sees(False, ups, (0, 0), [], [thing])
            self.sees(False, ups, (0, 0), [0, thing], [0])
            self.sees(False, ups, (0, 0), [], [0, thing])

    def test_tuples_and_others_for_lists(self):
        self.sees(True, LOOP, (0, 0), [0], [0])
        for thing in ((0,), (), "0", "", 0, None, True, False, ((0,),), {}):
            self.sees(False, LOOP, (0, 0), thing, [0])
            self.sees(False, LOOP, (0, 0), [0], thing)
            self.sees(False, LOOP, (0, 0), thing, thing)
        self.sees(False, LOOP, [0, 0], [0], [0])

    def test_twenty_thousand_ways_and_one_more(self):
        self.sees(True, LOOP, (0, 0), [0] * 20000, [0] * 20000)
        self.sees(False, LOOP, (0, 0), [0] * 20001, [0])
        self.sees(False, LOOP, (0, 0), [0], [0] * 20001)
        self.sees(False, LOOP, (0, 0), [2] * 30000, [0])
        self.sees(True, LOOP, (0, 0), [2] * 20000, [0])

    def test_places(self):
        self.sees(True, LOOP, (0, 1000), [], [0])
        for place in ((0, 1001), (0, FAR), (0, -1), (1, 0), (-1, 0), (0, True), (False, 0), (0, None), (0,), (0, 0, 0)):
            self.sees(False, LOOP, place, [], [0])
        for number in (1000, 1001):
            self.sees(number == 1000, BEHIND_ZERO, (1, number), [2, 2], [2])

    def test_no_house_and_strange_things_in_each_place(self):
        for thing in NO_HOUSES:
            self.assertIs(sees_rise(thing, (0, 0), [], [0]), False)
        good = [LOOP, (0, 0), [0], [0]]
        for thing in STRANGE + [deep_within([], 3000), [deep_within(0, 3000)]]:
            for at in range(4):
                if at < 2 or thing != [0, 0]:
                    self.assertIs(sees_rise(*(good[:at] + [thing] + good[at + 1:])), False)
            self.assertIs(sees_rise(thing, thing, thing, thing), False)

    def test_thrown_walks_and_rings_by_the_words_of_the_document(self):
        dice = Dice(121)
        seen = {True: 0, False: 0}
        for _ in range(6000):
            house = thrown_house(dice, 1 + dice.below(2), 4 + dice.below(6))
            place = (dice.below(house[0]), dice.below(3))
            places, walk = [place], []
            for _ in range(dice.below(9)):
                ways = [n for n, way in enumerate(house[1]) if gone(way, places[-1]) is not None]
                if ways:
                    walk.append(dice.of(ways))
                    places.append(gone(house[1][walk[-1]], places[-1]))
            if dice.below(8) == 0:
                walk.append(dice.below(len(house[1]) + 2) - 1)
            cut = dice.below(len(walk) + 1)
            answered = rises_by_words(house, place, walk[:cut], walk[cut:])
            seen[answered] += 1
            self.sees(answered, house, place, walk[:cut], walk[cut:])
        self.assertGreater(min(seen.values()), 300)

    def test_what_it_sees_can_be_gone_again_and_again(self):
        for house in thrown_houses(122, 100):
            told = greatest(house, (0, 1))
            if told[0] == "rises":
                places = went(house, (0, 1), told[1] + told[2] * 30)
                self.assertGreaterEqual(places[-1][1], places[len(told[1])][1] + 30)

    def test_what_is_handed_in_is_not_changed(self):
        walk, ring = [3, 0], [0, 2]
        self.sees(True, LOOP, (0, 0), walk, ring)
        self.assertEqual((walk, ring), ([3, 0], [0, 2]))
        walk, ring = [3, 1], [True, (2,)]
        self.sees(False, LOOP, (0, 0), walk, ring)
        self.assertEqual((walk, ring), ([3, 1], [True, (2,)]))


if __name__ == "__main__":
    unittest.main()
