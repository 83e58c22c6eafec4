import copy
import unittest

from stairrooms.errors import NoStair, StairError, TooGreat
from stairrooms.stairs import first_of, holds, how_many, is_stair, least, moved, rest_of
from tests.helper import (
    ALL, JUST_LET_BY, NO_STAIRS, NOTHING, TOO_GREAT, all_stairs, held, tried_least, written_out,
)

EVEN_FROM_4 = (3, 2, (), (4,))
MIXED = (5, 6, (0, 3), (6, 9, 10))
SIXTY_FIGURES = 10 ** 60 - 1

ASKED = [
    ("least", least),
    ("holds", lambda stair: holds(stair, 3)),
    ("first_of", first_of),
    ("how_many", lambda stair: how_many(stair, 3)),
    ("rest_of", rest_of),
    ("moved", lambda stair: moved(stair, 3)),
]


class IsStair(unittest.TestCase):
    def test_what_is_a_stair(self):
        more = [NOTHING, ALL, EVEN_FROM_4, MIXED, (4, 1, (3,), ()), (4, 1, (0, 1, 2, 3), (4,)), (7, 3, (), (7, 8, 9))]
        for stair in all_stairs(2, 3) + more:
            with self.subTest(stair):
                self.assertIs(is_stair(stair), True)

    def test_what_is_none_is_told_false_and_never_refused(self):
        for thing in NO_STAIRS:
            with self.subTest(thing):
                self.assertIs(is_stair(thing), False)

    def test_the_bounds_of_other_functions_are_none_here(self):
        for stair in TOO_GREAT + JUST_LET_BY:
            with self.subTest(stair[:2]):
                self.assertIs(is_stair(stair), True)

    def test_a_thing_deep_within_others(self):
        deep = ()
        for _ in range(3000):
            deep = (deep,)
        for thing in (deep, (deep, 1, (), ()), (0, deep, (), ()), (0, 1, deep, ()), (0, 1, (), deep)):
            self.assertIs(is_stair(thing), False)

    def test_what_is_handed_in_is_not_changed(self):
        for thing in ([0, 1, [], [0]], (2, 1, [1, 0], [2]), [[1], [2], [3], [4]]):
            before = copy.deepcopy(thing)
            is_stair(thing)
            self.assertEqual(thing, before)


class Refusals(unittest.TestCase):
    def refused(self, kind, ask, *things):
        with self.assertRaises(StairError) as caught:
            ask(*things)
        self.assertIs(type(caught.exception), kind)

    def test_what_is_no_stair(self):
        for name, ask in ASKED:
            for thing in NO_STAIRS:
                with self.subTest(name=name, thing=thing):
                    self.refused(NoStair, ask, thing)

    def test_what_is_too_great(self):
        for name, ask in ASKED:
            for stair in TOO_GREAT:
                with self.subTest(name=name, stair=stair[:2]):
                    self.refused(TooGreat, ask, stair)

    def test_the_greatest_that_is_let_by(self):
        for name, ask in ASKED:
            for stair in JUST_LET_BY:
                with self.subTest(name=name, stair=stair[:2]):
                    ask(stair)

    def test_moves_that_are_too_great(self):
        for k in (3001, -3001, SIXTY_FIGURES, -SIXTY_FIGURES):
            for stair in (ALL, NOTHING, MIXED, (3001, 1, (), ())):
                with self.subTest(k=k, stair=stair):
                    self.refused(TooGreat, moved, stair, k)

    def test_no_stair_goes_ahead_of_a_move_that_is_too_great(self):
        for k in (3001, -3001):
            for thing in NO_STAIRS:
                with self.subTest(k=k, thing=thing):
                    self.refused(NoStair, moved, thing, k)

    def test_what_was_refused_is_not_changed_and_may_be_asked_again(self):
        thing = [0, 1, [], [0]]
        for _, ask in ASKED:
            for _ in range(2):
                self.refused(NoStair, ask, thing)
                self.assertEqual(thing, [0, 1, [], [0]])
                self.refused(TooGreat, ask, (3001, 1, (), ()))
                ask(MIXED)


class Least(unittest.TestCase):
    def test_the_four_that_the_document_gives(self):
        self.assertEqual(least((9, 6, (), ())), (0, 1, (), ()))
        self.assertEqual(least((2, 3, (0, 1), (2, 3, 4))), (0, 1, (), (0,)))
        self.assertEqual(least((7, 4, (3,), ())), (4, 1, (3,), ()))
        self.assertEqual(least((6, 4, (4,), (6, 8))), (3, 2, (), (4,)))

    def test_the_four_are_their_own_least_forms(self):
        for stair in (NOTHING, ALL, (4, 1, (3,), ()), EVEN_FROM_4):
            self.assertEqual(least(stair), stair)

    def test_a_step_that_could_be_smaller(self):
        self.assertEqual(least((0, 6, (), (1, 3, 5))), (0, 2, (), (1,)))
        self.assertEqual(least((0, 6, (), (1, 4))), (0, 3, (), (1,)))
        self.assertEqual(least((0, 6, (), (1,))), (0, 6, (), (1,)))
        self.assertEqual(least((0, 840, (), tuple(range(0, 840, 420)))), (0, 420, (), (0,)))
        self.assertEqual(least((0, 840, (), tuple(range(2, 840, 7)))), (0, 7, (), (2,)))

    def test_runs_whose_length_does_not_divide_the_step_are_no_smaller_step(self):
        self.assertEqual(least((0, 5, (), (0, 2, 4))), (0, 5, (), (0, 2, 4)))
        self.assertEqual(least((0, 7, (), (0, 3, 6))), (0, 7, (), (0, 3, 6)))

    def test_a_base_that_could_be_lower(self):
        self.assertEqual(least((5, 3, (1, 4), (7,))), (0, 3, (), (1,)))
        self.assertEqual(least((5, 3, (4,), (7,))), (2, 3, (), (4,)))
        self.assertEqual(least((3000, 1, (), (3000,))), (3000, 1, (), (3000,)))
        self.assertEqual(least((3000, 1, tuple(range(3000)), (3000,))), ALL)
        self.assertEqual(least((3000, 840, tuple(range(0, 3000, 840)), (3360,))), (0, 840, (), (0,)))

    def test_every_small_stair_against_trying_all_forms(self):
        for stair in all_stairs(3, 4) + all_stairs(1, 6):
            with self.subTest(stair):
                self.assertEqual(least(stair), tried_least(stair))

    def test_the_least_form_of_a_least_form_is_itself(self):
        for stair in all_stairs(3, 4) + JUST_LET_BY:
            with self.subTest(stair[:2]):
                form = least(stair)
                self.assertIs(is_stair(form), True)
                self.assertEqual(least(form), form)

    def test_equal_stairs_have_one_least_form(self):
        numbers = held(MIXED, 200)
        for base in range(5, 20):
            for step in (6, 12, 18):
                self.assertEqual(least(written_out(numbers, base, step)), least(MIXED))


class Numbers(unittest.TestCase):
    def test_holds_against_the_numbers_themselves(self):
        for stair in all_stairs(3, 4) + [MIXED, EVEN_FROM_4]:
            numbers = held(stair, 30)
            with self.subTest(stair):
                for x in range(-9, 30):
                    self.assertIs(holds(stair, x), x in numbers)

    def test_holds_at_the_greatest_stair(self):
        stair = JUST_LET_BY[-1]
        numbers = held(stair, 6000)
        self.assertEqual([x for x in range(-900, 6000) if holds(stair, x)], sorted(numbers))

    def test_holds_of_numbers_far_below_and_far_beyond(self):
        self.assertIs(holds(ALL, SIXTY_FIGURES), True)
        self.assertIs(holds(ALL, -SIXTY_FIGURES), False)
        self.assertIs(holds(ALL, -1), False)
        self.assertIs(holds(NOTHING, SIXTY_FIGURES), False)
        self.assertIs(holds(EVEN_FROM_4, SIXTY_FIGURES), False)
        self.assertIs(holds(EVEN_FROM_4, SIXTY_FIGURES - 1), True)
        self.assertIs(holds(EVEN_FROM_4, 1 - SIXTY_FIGURES), False)
        self.assertIs(holds((4, 1, (3,), ()), SIXTY_FIGURES), False)
        far = 6 * 10 ** 58
        self.assertEqual([y for y in range(12) if holds(MIXED, far + y)], [0, 3, 4, 6, 9, 10])

    def test_first_of(self):
        for stair in all_stairs(3, 4):
            with self.subTest(stair):
                self.assertEqual(first_of(stair), min(held(stair, 8), default=None))
        self.assertIsNone(first_of((3000, 840, (), ())))
        self.assertEqual(first_of((3000, 840, (), (3839,))), 3839)
        self.assertEqual(first_of((3000, 840, (2999,), (3000,))), 2999)
        self.assertEqual(first_of(ALL), 0)

    def test_how_many_against_the_numbers_themselves(self):
        for stair in all_stairs(3, 4) + [MIXED, EVEN_FROM_4]:
            with self.subTest(stair):
                for x in range(-9, 30):
                    self.assertEqual(how_many(stair, x), len(held(stair, x)) if x > 0 else 0)

    def test_how_many_at_the_base_and_beyond_it(self):
        stair = JUST_LET_BY[-1]
        for x in (0, 1, 7, 8, 2999, 3000, 3001, 3839, 3840, 3841, 4680, 9001):
            self.assertEqual(how_many(stair, x), len(held(stair, x)))

    def test_how_many_of_numbers_far_below_and_far_beyond(self):
        self.assertEqual(how_many(ALL, SIXTY_FIGURES), SIXTY_FIGURES)
        self.assertEqual(how_many(ALL, -SIXTY_FIGURES), 0)
        self.assertEqual(how_many(NOTHING, SIXTY_FIGURES), 0)
        self.assertEqual(how_many((4, 1, (3,), ()), SIXTY_FIGURES), 1)
        self.assertEqual(how_many(EVEN_FROM_4, 10 ** 59), 5 * 10 ** 58 - 2)
        self.assertEqual(how_many(EVEN_FROM_4, 10 ** 59 + 1), 5 * 10 ** 58 - 1)
        self.assertEqual(how_many(MIXED, 5 + 6 * 10 ** 58), 2 + 3 * 10 ** 58)


class RestAndMove(unittest.TestCase):
    def test_rest_of_some(self):
        self.assertEqual(rest_of(NOTHING), ALL)
        self.assertEqual(rest_of(ALL), NOTHING)
        self.assertEqual(rest_of((4, 1, (3,), ())), (4, 1, (0, 1, 2), (4,)))
        self.assertEqual(rest_of(EVEN_FROM_4), (3, 2, (0, 1, 2), (3,)))

    def test_rest_of_against_the_numbers_themselves(self):
        for stair in all_stairs(3, 4) + [MIXED]:
            base, step = stair[:2]
            numbers = set(range(base + step)) - held(stair, base + step)
            with self.subTest(stair):
                self.assertEqual(rest_of(stair), tried_least(written_out(numbers, base, step)))
                self.assertEqual(rest_of(rest_of(stair)), least(stair))

    def test_rest_of_the_greatest(self):
        stair = JUST_LET_BY[-1]
        self.assertEqual(held(rest_of(stair), 6000), set(range(6000)) - held(stair, 6000))

    def test_moved_some(self):
        self.assertEqual(moved(EVEN_FROM_4, -4), (0, 2, (), (0,)))
        self.assertEqual(moved(EVEN_FROM_4, -5), (0, 2, (), (1,)))
        self.assertEqual(moved(EVEN_FROM_4, 1), (4, 2, (), (5,)))
        self.assertEqual(moved(ALL, 3), (3, 1, (), (3,)))
        self.assertEqual(moved(ALL, -3), ALL)
        self.assertEqual(moved(NOTHING, 3000), NOTHING)
        self.assertEqual(moved((4, 1, (3,), ()), -3), (1, 1, (0,), ()))
        self.assertEqual(moved((4, 1, (3,), ()), -4), NOTHING)

    def test_moved_against_the_numbers_themselves(self):
        for stair in all_stairs(3, 3) + [MIXED]:
            for k in range(-9, 8):
                base, step = max(0, stair[0] + k), stair[1]
                numbers = {x + k for x in held(stair, 40) if x + k >= 0}
                with self.subTest(stair=stair, k=k):
                    self.assertEqual(moved(stair, k), tried_least(written_out(numbers, base, step)))

    def test_moved_by_none_is_the_least_form(self):
        for stair in all_stairs(3, 4):
            self.assertEqual(moved(stair, 0), least(stair))

    def test_the_greatest_moves(self):
        self.assertEqual(moved(ALL, 3000), (3000, 1, (), (3000,)))
        self.assertEqual(moved(ALL, -3000), ALL)
        self.assertEqual(moved((3000, 1, (2999,), ()), -3000), NOTHING)
        self.assertEqual(moved((3000, 1, (0,), (3000,)), -3000), ALL)
        self.assertEqual(moved((3000, 1, (), (3000,)), 3000), (6000, 1, (), (6000,)))
        stair = JUST_LET_BY[-1]
        numbers = held(stair, 20000)
        for k in (3000, -3000, 2999, -2999):
            told = moved(stair, k)
            self.assertIs(is_stair(told), True)
            self.assertEqual(held(told, 12000), {x + k for x in numbers if 0 <= x + k < 12000})
        self.assertEqual(moved(moved((1, 840, (0,), (5,)), 2990), -2990), least((1, 840, (0,), (5,))))


if __name__ == "__main__":
    unittest.main()
