import copy
import unittest

from stairrooms.backward import backward
from stairrooms.ends import fate, stops
from stairrooms.errors import NoHouse, NoPlace, TooGreat
from stairrooms.forward import forward, rooms_at
from stairrooms.houses import is_house, open_ways, turned_about
from stairrooms.levels import fallen, kept, risen
from stairrooms.papers import answer
from stairrooms.side import is_bare, side_by_side
from stairrooms.texts import shown_house
from stairrooms.tops import greatest
from stairrooms.walks import shortest, walked
from stairrooms.words import first_word, first_words, reads
from tests.helper import (
    DEEDS, HOUSES, LONE, MINGLED, NO_HOUSES, PLAIN, SIGNS, Case, full_house, gone, places_of, thrown_houses,
)

HOUSE_ASKS = [
    ("turned_about", turned_about),
    ("open_ways", lambda house: open_ways(house, (0, 0))),
    ("shown_house", shown_house),
    ("walked", lambda house: walked(house, (0, 0), [])),
    ("shortest", lambda house: shortest(house, (0, 0), (0, 0))),
    ("kept", kept),
    ("risen", risen),
    ("fallen", fallen),
    ("rooms_at", lambda house: rooms_at(house, (0, 0), 0)),
    ("forward", lambda house: forward(house, (0, 0))),
    ("answer", lambda house: answer(house, (0, 0), (0, 0))),
    ("backward", lambda house: backward(house, (0, 0))),
    ("greatest", lambda house: greatest(house, (0, 0))),
    ("fate", lambda house: fate(house, (0, 0))),
    ("stops", lambda house: stops(house, (0, 0))),
    ("reads", lambda house: reads(house, 0, 0, "a")),
    ("first_word", lambda house: first_word(house, 0, 0)),
    ("first_words", lambda house: first_words(house, 0, 0, 2, 2)),
    ("is_bare", is_bare),
    ("side_by_side", lambda house: side_by_side(house, LONE)),
]

PLACE_ASKS = [
    ("open_ways", lambda house, place: open_ways(house, place)),
    ("walked", lambda house, place: walked(house, place, [])),
    ("shortest from", lambda house, place: shortest(house, place, (0, 0))),
    ("shortest to", lambda house, place: shortest(house, (0, 0), place)),
    ("rooms_at", lambda house, place: rooms_at(house, place, 0)),
    ("forward", forward),
    ("answer from", lambda house, place: answer(house, place, (0, 0))),
    ("answer to", lambda house, place: answer(house, (0, 0), place)),
    ("backward", backward),
    ("greatest", greatest),
    ("fate", fate),
    ("stops", stops),
]

TWO_PLACE_ASKS = [("shortest", shortest), ("answer", answer)]

FAR = 10 ** 59
NO_PLACES_OF_TWO = [
    (-1, 0), (2, 0), (3, 0), (12, 0), (FAR, 0), (-FAR, 0), (0, -1), (1, -1), (0, -FAR), (1, -1000),
    (-1, -1), (2, -1), (2, 1000), (-1, 1000), (2, 1001), (-1, 1001), (FAR, FAR), (2, FAR),
]


class IsHouse(unittest.TestCase):
    def test_what_is_a_house(self):
        for house in HOUSES + thrown_houses(1, 50):
            with self.subTest(house):
                self.assertIs(is_house(house), True)

    def test_all_numbers_of_rooms(self):
        for many in range(-3, 20):
            with self.subTest(many):
                self.assertIs(is_house((many, ())), 1 <= many <= 12)

    def test_all_rooms_of_ways(self):
        for many in range(1, 13):
            for room in range(-2, 15):
                with self.subTest(many=many, room=room):
                    self.assertIs(is_house((many, ((room, "stay", 0, "a"),))), 0 <= room < many)
                    self.assertIs(is_house((many, ((0, "stay", room, "a"),))), 0 <= room < many)

    def test_all_deeds_and_all_signs(self):
        for deed in DEEDS:
            for number in range(ord(" "), ord("~") + 1):
                sign = chr(number)
                self.assertIs(is_house((1, ((0, deed, 0, sign),))), sign in SIGNS)

    def test_a_hundred_ways_and_one_more(self):
        self.assertEqual(len(full_house(100)[1]), 100)
        self.assertIs(is_house(full_house(100)), True)
        self.assertIs(is_house(full_house(101)), False)

    def test_ways_that_differ_in_one_part_alone(self):
        ways = ((0, "up", 0, "a"), (1, "up", 0, "a"), (0, "stay", 0, "a"), (0, "up", 1, "a"), (0, "up", 0, "b"))
        self.assertIs(is_house((2, ways)), True)
        for way in ways:
            self.assertIs(is_house((2, ways + (way,))), False)

    def test_what_is_none_is_told_false_and_never_refused(self):
        for at, thing in enumerate(NO_HOUSES):
            with self.subTest(at):
                self.assertIs(is_house(thing), False)

    def test_what_is_handed_in_is_not_changed(self):
        for thing in ([1, [[0, "up", 0, "a"]]], (1, [(0, "up", 0, "a")]), (1, ([0, "up", 0, "a"],))):
            before = copy.deepcopy(thing)
            self.assertIs(is_house(thing), False)
            self.assertEqual(thing, before)


class Refusals(Case):
    def test_what_is_no_house(self):
        for name, ask in HOUSE_ASKS:
            for at, thing in enumerate(NO_HOUSES):
                with self.subTest(name=name, at=at):
                    self.refused(NoHouse, ask, thing)

    def test_no_house_goes_ahead_of_all_else(self):
        for at, thing in enumerate(NO_HOUSES):
            for place in ((0, -1), (99, 0), (0, 1001), (-1, 1001)):
                for name, ask in PLACE_ASKS:
                    with self.subTest(name=name, at=at, place=place):
                        self.refused(NoHouse, ask, thing, place)
            self.refused(NoHouse, walked, thing, (0, 0), [0] * 20001)
            self.refused(NoHouse, walked, thing, (0, 0), [-1])
            self.refused(NoHouse, shortest, thing, (0, 1001), (0, -1))
            self.refused(NoHouse, answer, thing, (0, 1001), (0, -1))

    def test_what_is_no_place(self):
        for name, ask in PLACE_ASKS:
            for place in NO_PLACES_OF_TWO:
                with self.subTest(name=name, place=place):
                    self.refused(NoPlace, ask, PLAIN, place)

    def test_the_rooms_of_each_house(self):
        for many in range(1, 13):
            house = (many, ())
            for name, ask in PLACE_ASKS:
                with self.subTest(name=name, many=many):
                    ask(house, (many - 1, 0))
                    self.refused(NoPlace, ask, house, (many, 0))
                    self.refused(NoPlace, ask, house, (many, 1001))

    def test_numbers_of_a_thousand_and_one_more(self):
        for name, ask in PLACE_ASKS:
            for house in (LONE, PLAIN, MINGLED, full_house()):
                with self.subTest(name=name, house=house):
                    ask(house, (0, 1000))
                    self.refused(TooGreat, ask, house, (0, 1001))
                    self.refused(TooGreat, ask, house, (house[0] - 1, FAR))

    def test_no_place_of_either_goes_ahead_of_too_great_of_the_other(self):
        for place in NO_PLACES_OF_TWO:
            for great in ((0, 1001), (1, 1001), (0, FAR)):
                for name, ask in TWO_PLACE_ASKS:
                    with self.subTest(name=name, place=place, great=great):
                        self.refused(NoPlace, ask, PLAIN, place, great)
                        self.refused(NoPlace, ask, PLAIN, great, place)
        for name, ask in TWO_PLACE_ASKS:
            self.refused(TooGreat, ask, PLAIN, (0, 1001), (1, 1001))
            self.refused(TooGreat, ask, PLAIN, (0, 1001), (0, 1001))

    def test_what_was_refused_is_not_changed_and_may_be_asked_again(self):
        thing = [1, [[0, "up", 0, "a"]]]
        for name, ask in HOUSE_ASKS:
            for _ in range(2):
                with self.subTest(name):
                    self.refused(NoHouse, ask, thing)
                    self.assertEqual(thing, [1, [[0, "up", 0, "a"]]])
                    ask(MINGLED)
        for name, ask in PLACE_ASKS:
            for _ in range(2):
                with self.subTest(name):
                    self.refused(NoPlace, ask, MINGLED, (3, 0))
                    self.refused(TooGreat, ask, MINGLED, (2, 1001))
                    ask(MINGLED, (2, 1000))


class TurnedAbout(unittest.TestCase):
    def test_way_by_way_in_the_same_order(self):
        self.assertEqual(turned_about(LONE), LONE)
        self.assertEqual(turned_about(PLAIN), (2, ((1, "down", 0, "a"), (0, "zero", 1, "b"))))
        self.assertEqual(
            turned_about((3, ((2, "stay", 1, "q"), (0, "down", 2, "r"), (1, "zero", 0, "s"), (2, "up", 1, "t")))),
            (3, ((1, "stay", 2, "q"), (2, "up", 0, "r"), (0, "zero", 1, "s"), (1, "down", 2, "t"))),
        )

    def test_turned_about_twice(self):
        for house in HOUSES + thrown_houses(2, 100):
            with self.subTest(house):
                turned = turned_about(house)
                self.assertIs(is_house(turned), True)
                self.assertEqual(turned_about(turned), house)

    def test_a_way_leads_to_a_place_just_where_the_turned_way_leads_back(self):
        for house in HOUSES[:7] + thrown_houses(3, 60):
            turned = turned_about(house)
            self.assertEqual(len(turned[1]), len(house[1]))
            for way, back in zip(house[1], turned[1]):
                forth = {(here, gone(way, here)) for here in places_of(house, 5)}
                again = {(gone(back, there), there) for there in places_of(house, 6)}
                with self.subTest(house=house, way=way):
                    self.assertEqual(
                        {(p, q) for p, q in forth if q is not None},
                        {(p, q) for p, q in again if p is not None and p[1] < 5},
                    )

    def test_from_the_end_of_each_open_way_the_turned_way_leads_back(self):
        for house in [MINGLED, full_house()] + thrown_houses(4, 60):
            turned = turned_about(house)
            for place in places_of(house, 4):
                for count in open_ways(house, place):
                    there = walked(house, place, [count])[1]
                    with self.subTest(house=house, place=place, count=count):
                        self.assertIn(count, open_ways(turned, there))
                        self.assertEqual(walked(turned, there, [count]), [there, place])


class OpenWays(unittest.TestCase):
    def test_each_deed(self):
        house = (1, tuple((0, deed, 0, "a") for deed in DEEDS))
        self.assertEqual(open_ways(house, (0, 0)), [0, 2, 3])
        for number in (1, 2, 999, 1000):
            self.assertEqual(open_ways(house, (0, number)), [0, 1, 2])

    def test_some(self):
        self.assertEqual(open_ways(LONE, (0, 0)), [])
        self.assertEqual(open_ways(PLAIN, (0, 7)), [0])
        self.assertEqual(open_ways(PLAIN, (1, 7)), [])
        self.assertEqual(open_ways(PLAIN, (1, 0)), [1])
        self.assertEqual(open_ways(MINGLED, (2, 0)), [4, 5])
        self.assertEqual(open_ways(MINGLED, (2, 1)), [4, 6])

    def test_against_the_words_of_the_document(self):
        for house in HOUSES + thrown_houses(5, 80):
            for place in places_of(house, 3) + [(house[0] - 1, 1000)]:
                with self.subTest(house=house, place=place):
                    told = open_ways(house, place)
                    self.assertEqual(told, [n for n, way in enumerate(house[1]) if gone(way, place) is not None])
                    self.assertIsInstance(told, list)

    def test_a_told_list_is_the_askers_own(self):
        told = open_ways(MINGLED, (2, 0))
        told.append(99)
        told[0] = -1
        self.assertEqual(open_ways(MINGLED, (2, 0)), [4, 5])


if __name__ == "__main__":
    unittest.main()
