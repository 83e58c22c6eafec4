"""What holds over the whole program: the interface, whose lists are whose, and how its parts agree."""

import copy
import importlib
import inspect
import unittest

from stairrooms.backward import backward
from stairrooms.desk import Desk
from stairrooms.forward import forward, rooms_at
from stairrooms.papers import answer, sees_closed, sees_never
from stairrooms.stairs import holds, is_stair
from stairrooms.tops import greatest, sees_rise
from stairrooms.ends import fate, ranks, sees_same, stops
from stairrooms.walks import shortest
from tests.helper import (
    ALL, HOUSES, LONE, MINGLED, NOTHING, PLAIN, STRANGE, Case, Dice, found_places, places_of, thrown_houses,
)

INTERFACE = {
    "stairs": {
        "is_stair": "thing", "least": "stair", "holds": "stair x", "first_of": "stair", "how_many": "stair x",
        "rest_of": "stair", "moved": "stair k",
    },
    "pairs": {
        "parting": "one other", "within": "one other", "both": "one other", "either": "one other", "less": "one other",
    },
    "houses": {"is_house": "thing", "turned_about": "house", "open_ways": "house place"},
    "texts": {"shown_house": "house", "shown_stair": "stair", "read_house": "text", "read_stair": "text"},
    "walks": {"walked": "house place walk", "shortest": "house place goal"},
    "levels": {"kept": "house", "risen": "house", "fallen": "house"},
    "forward": {"rooms_at": "house place l", "forward": "house place"},
    "papers": {
        "sees_closed": "house stairs", "sees_never": "house place goal stairs", "answer": "house place goal",
    },
    "backward": {"backward": "house goal"},
    "tops": {"greatest": "house place", "sees_rise": "house place walk ring"},
    "ends": {
        "fate": "house place", "sees_same": "house place walk ring", "stops": "house place", "ranks": "house place",
    },
    "words": {"reads": "house p q text", "first_word": "house p q", "first_words": "house p q length many"},
    "side": {"is_bare": "house", "side_by_side": "house bare"},
}

EVENS = (3, 2, (), (4,))
LOOP = (1, ((0, "up", 0, "a"), (0, "down", 0, "b"), (0, "stay", 0, "c"), (0, "zero", 0, "d")))
DOWN = (2, ((0, "down", 0, "a"), (0, "zero", 1, "b")))
STAY = (2, ((0, "stay", 1, "a"), (1, "stay", 0, "b")))

# each function with things that it may be handed, several where it tells several kinds
SAMPLES = [
    ("stairs", "is_stair", [EVENS]), ("stairs", "is_stair", [[0, 1, [], [0]]]), ("stairs", "least", [(6, 4, (4,), (6, 8))]),
    ("stairs", "holds", [EVENS, 4]), ("stairs", "first_of", [EVENS]), ("stairs", "how_many", [EVENS, 9]),
    ("stairs", "rest_of", [EVENS]), ("stairs", "moved", [EVENS, -4]),
    ("pairs", "parting", [EVENS, ALL]), ("pairs", "within", [EVENS, ALL]), ("pairs", "both", [EVENS, ALL]),
    ("pairs", "either", [EVENS, ALL]), ("pairs", "less", [ALL, EVENS]),
    ("houses", "is_house", [MINGLED]), ("houses", "is_house", [[1, []]]), ("houses", "turned_about", [MINGLED]),
    ("houses", "open_ways", [MINGLED, (2, 0)]),
    ("texts", "shown_house", [MINGLED]), ("texts", "shown_stair", [EVENS]), ("texts", "read_house", ["1: 0 up 0 a"]),
    ("texts", "read_stair", ["3 2 : : 4"]),
    ("walks", "walked", [LOOP, (0, 1), [0, 1, 1, 3]]), ("walks", "shortest", [MINGLED, (0, 2), (2, 0)]),
    ("walks", "shortest", [LONE, (0, 0), (0, 1)]), ("walks", "shortest", [LONE, (0, 0), (0, 0)]),
    ("levels", "kept", [MINGLED]), ("levels", "risen", [MINGLED]), ("levels", "fallen", [MINGLED]),
    ("forward", "rooms_at", [MINGLED, (0, 2), 1]), ("forward", "rooms_at", [MINGLED, (0, 2), -1]),
    ("forward", "forward", [MINGLED, (0, 2)]), ("forward", "forward", [LONE, (0, 0)]),
    ("papers", "sees_closed", [STAY, [ALL, ALL]]), ("papers", "sees_closed", [STAY, [[ALL], NOTHING]]),
    ("papers", "sees_never", [STAY, (0, 0), (1, 1), [(1, 1, (0,), ()), (1, 1, (0,), ())]]),
    ("papers", "sees_never", [STAY, [0, 0], (1, 1), [(1, 1, (0,), ()), (1, 1, (0,), ())]]),
    ("papers", "answer", [MINGLED, (0, 2), (2, 0)]), ("papers", "answer", [LONE, (0, 0), (0, 1)]),
    ("papers", "answer", [LONE, (0, 0), (0, 0)]),
    ("backward", "backward", [MINGLED, (2, 0)]),
    ("tops", "greatest", [PLAIN, (1, 0)]), ("tops", "greatest", [MINGLED, (2, 1)]), ("tops", "greatest", [LONE, (0, 0)]),
    ("tops", "sees_rise", [LOOP, (0, 1), [0, 1], [0, 2]]), ("tops", "sees_rise", [LOOP, (0, 1), [0, True], [[0], 2]]),
    ("ends", "fate", [PLAIN, (1, 0)]), ("ends", "fate", [MINGLED, (2, 1)]), ("ends", "fate", [STAY, (1, 4)]),
    ("ends", "sees_same", [LOOP, (0, 1), [0, 1], [0, 1]]), ("ends", "sees_same", [LOOP, (0, 1), [0, True], [[0], 2]]),
    ("ends", "stops", [DOWN, (0, 3)]), ("ends", "ranks", [DOWN, (0, 3)]),
    ("words", "reads", [LOOP, 0, 0, "aabcb"]), ("words", "first_word", [DOWN, 0, 1]), ("words", "first_word", [DOWN, 1, 0]),
    ("words", "first_words", [LOOP, 0, 0, 3, 9]), ("words", "first_words", [LOOP, 0, 0, 0, 0]),
    ("side", "is_bare", [STAY]), ("side", "side_by_side", [LOOP, STAY]),
]

TRUTHS = {
    "is_stair", "holds", "within", "is_house", "sees_closed", "sees_never", "sees_rise", "sees_same", "reads", "is_bare",
}
LOOKERS = {name: len(args.split()) for names in INTERFACE.values() for name, args in names.items()
           if name.startswith("sees") or name in ("is_stair", "is_house")}


def function(module, name):
    return getattr(importlib.import_module(f"stairrooms.{module}"), name)


def spoil(thing):
    """Changes every list in a thing, the ones deep within first."""
    if isinstance(thing, (list, tuple)):
        for part in thing:
            spoil(part)
    if isinstance(thing, list):
        thing.reverse()
        thing.append("spoilt")
        thing[0] = None


def parts_of(thing):
    """The thing itself, and all that lies within it."""
    parts = [thing]
    for part in parts:
        if isinstance(part, (list, tuple)):
            parts.extend(part)
    return parts


class Interface(unittest.TestCase):
    def test_names_and_arguments(self):
        for module, names in INTERFACE.items():
            for name, arguments in names.items():
                with self.subTest(module=module, name=name):
                    signature = inspect.signature(function(module, name))
                    self.assertEqual(list(signature.parameters), arguments.split())

    def test_the_desk(self):
        self.assertEqual(list(inspect.signature(Desk).parameters), [])
        self.assertEqual(list(inspect.signature(Desk().tell).parameters), ["line"])

    def test_each_function_has_a_sample(self):
        sampled = {(module, name) for module, name, _ in SAMPLES}
        self.assertEqual(sampled, {(module, name) for module, names in INTERFACE.items() for name in names})


class Owners(Case):
    def test_what_is_handed_in_is_as_it_was(self):
        for module, name, things in SAMPLES:
            handed = copy.deepcopy(things)
            function(module, name)(*handed)
            with self.subTest(name=name, things=things):
                self.assertEqual(repr(handed), repr(things))

    def test_a_told_list_may_be_changed_without_harm_to_what_is_told_later(self):
        for module, name, things in SAMPLES:
            told = function(module, name)(*copy.deepcopy(things))
            before = copy.deepcopy(told)
            spoil(told)
            with self.subTest(name=name, things=things):
                self.assertEqual(function(module, name)(*copy.deepcopy(things)), before)

    def test_what_is_done_to_a_handed_list_behind_the_call_changes_nothing(self):
        for module, name, things in SAMPLES:
            handed = copy.deepcopy(things)
            told = function(module, name)(*handed)
            before = copy.deepcopy(told)
            spoil(handed)
            with self.subTest(name=name, things=things):
                self.assertEqual(told, before)
                self.assertEqual(function(module, name)(*copy.deepcopy(things)), before)

    def test_no_told_list_is_another_one(self):
        for module, name, things in SAMPLES:
            handed = copy.deepcopy(things)
            one, other = function(module, name)(*handed), function(module, name)(*handed)
            lists = [part for part in parts_of(handed) + parts_of(one) + parts_of(other) if isinstance(part, list)]
            with self.subTest(name=name, things=things):
                self.assertEqual(len({id(part) for part in lists}), len(lists))

    def test_kinds_of_what_is_told(self):
        for module, name, things in SAMPLES:
            told = function(module, name)(*things)
            with self.subTest(name=name, things=things):
                self.assertEqual(isinstance(told, bool), name in TRUTHS)
                if name not in TRUTHS:
                    self.assertEqual([part for part in parts_of(told) if isinstance(part, bool)], [])
                for part in parts_of(told):
                    self.assertTrue(part is None or type(part) in (int, str, bool, list, tuple))


class Lookers(unittest.TestCase):
    def test_they_refuse_nothing_and_tell_truths(self):
        dice = Dice(201)
        things = STRANGE + [LOOP, STAY, (0, 0), (0, 1), [0], [2, 2], [ALL], [ALL, NOTHING], EVENS, [EVENS], (0, 1001)]
        for module, names in INTERFACE.items():
            for name in names:
                for _ in range(400 if name in LOOKERS else 0):
                    handed = [dice.of(things) for _ in range(LOOKERS[name])]
                    self.assertIn(function(module, name)(*handed), (True, False))


class Whole(Case):
    def test_the_parts_agree(self):
        for house in HOUSES[:7] + thrown_houses(202, 40):
            place = (house[0] - 1, 2)
            stairs = forward(house, place)
            ended = fate(house, place)
            self.assertTrue(all(is_stair(stair) for stair in stairs))
            self.assertIs(sees_closed(house, stairs), True)
            for goal in places_of(house, 5):
                held = holds(stairs[goal[0]], goal[1])
                with self.subTest(house=house, place=place, goal=goal):
                    self.assertEqual(goal in found_places(house, place, 5), held)
                    self.assertEqual(holds(backward(house, goal)[place[0]], place[1]), held)
                    self.assertEqual(shortest(house, place, goal) is not None, held)
                    self.assertEqual(goal[0] in rooms_at(house, place, goal[1]), held)
                    self.assertEqual(answer(house, place, goal)[0], "walk" if held else "never")
                    self.assertIs(sees_never(house, place, goal, stairs), not held)
            with self.subTest(house=house, place=place):
                top = greatest(house, place)
                self.assertEqual(top[0] == "rises", any(again for _, _, _, again in stairs))
                if top[0] == "rises":
                    self.assertIs(sees_rise(house, place, top[1], top[2]), True)
                    self.assertNotEqual(ended[0], "ends")
                if ended[0] == "same":
                    self.assertIs(sees_same(house, place, ended[1], ended[2]), True)
                if ended[0] == "ends":
                    self.assertEqual(max(rank for _, _, rank in ranks(house, place)), ended[1])
                    self.assertTrue(any(stair != NOTHING for stair in stops(house, place)))


if __name__ == "__main__":
    unittest.main()
