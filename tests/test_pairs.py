import unittest
from math import lcm

from stairrooms.errors import NoStair, StairError, TooGreat
from stairrooms.pairs import both, either, less, parting, within
from stairrooms.stairs import is_stair, least, rest_of
from tests.helper import (
    ALL, JUST_LET_BY, NO_STAIRS, NOTHING, TOO_GREAT, all_stairs, held, tried_least, written_out,
)

EVEN_FROM_4 = (3, 2, (), (4,))
PAIR_ASKS = [both, either, less, parting, within]

# steps with and without a common divisor, bases apart, forms that are not least
PICKED = [
    NOTHING,
    ALL,
    EVEN_FROM_4,
    (4, 1, (3,), ()),
    (0, 4, (), (0, 2)),
    (0, 4, (), (1,)),
    (2, 6, (1,), (3, 4)),
    (7, 6, (0, 3, 6), (7, 9, 12)),
    (1, 9, (0,), (1, 2, 9)),
    (5, 10, (), (5, 6, 11, 14)),
    (9, 3, (0, 1, 2, 5), (9, 10, 11)),
]


def told_by_numbers(one, other, choose):
    base, step = max(one[0], other[0]), lcm(one[1], other[1])
    end = base + step
    return written_out(choose(held(one, end), held(other, end)), base, step)


def first_apart(one, other):
    end = max(one[0], other[0]) + lcm(one[1], other[1])
    return min(held(one, end) ^ held(other, end), default=None)


def is_within(one, other):
    end = max(one[0], other[0]) + lcm(one[1], other[1])
    return held(one, end) <= held(other, end)


class AgainstTheNumbers(unittest.TestCase):
    def agree(self, one, other):
        for ask, choose in (
            (both, lambda p, q: p & q),
            (either, lambda p, q: p | q),
            (less, lambda p, q: p - q),
        ):
            self.assertEqual(ask(one, other), tried_least(told_by_numbers(one, other, choose)))
        self.assertEqual(parting(one, other), first_apart(one, other))
        self.assertIs(within(one, other), is_within(one, other))

    def test_all_small_pairs_in_either_order(self):
        stairs = all_stairs(2, 3)
        for one in stairs:
            for other in stairs:
                with self.subTest(one=one, other=other):
                    self.agree(one, other)

    def test_picked_pairs_in_either_order(self):
        for one in PICKED:
            for other in PICKED:
                with self.subTest(one=one, other=other):
                    self.agree(one, other)

    def test_great_pairs_in_either_order(self):
        stairs = [
            (3000, 24, tuple(range(1, 3000, 2)), (3001, 3010)),
            (2999, 35, (0, 2998), (2999, 3004, 3033)),
            (0, 840, (), (0, 1, 839)),
            (3000, 840, (), (3000, 3839)),
            (17, 28, (3,), (17, 30)),
            (40, 30, (3, 39), (44,)),
        ]
        for one in stairs:
            for other in stairs:
                with self.subTest(one=one[:2], other=other[:2]):
                    for ask, choose in (
                        (both, set.intersection), (either, set.union), (less, set.difference),
                    ):
                        told = ask(one, other)
                        self.assertIs(is_stair(told), True)
                        self.assertEqual(told, least(told))
                        self.assertEqual(held(told, 6000), choose(held(one, 6000), held(other, 6000)))
                    self.assertEqual(parting(one, other), first_apart(one, other))
                    self.assertIs(within(one, other), is_within(one, other))


class ByHand(unittest.TestCase):
    def test_some_of_each(self):
        threes = (0, 3, (), (0,))
        self.assertEqual(both(EVEN_FROM_4, threes), (1, 6, (), (6,)))
        self.assertEqual(either((0, 2, (), (0,)), (0, 2, (), (1,))), ALL)
        self.assertEqual(less(ALL, EVEN_FROM_4), rest_of(EVEN_FROM_4))
        self.assertEqual(less(EVEN_FROM_4, ALL), NOTHING)
        self.assertEqual(less(threes, (0, 6, (), (0,))), (0, 6, (), (3,)))
        self.assertEqual(parting(EVEN_FROM_4, threes), 0)
        self.assertEqual(parting(EVEN_FROM_4, (5, 4, (4,), (8,))), 6)
        self.assertIs(within((0, 6, (), (0,)), threes), True)
        self.assertIs(within(threes, (0, 6, (), (0,))), False)

    def test_stairs_that_are_equal_in_other_forms(self):
        form = (6, 4, (4,), (6, 8))
        self.assertIsNone(parting(form, EVEN_FROM_4))
        self.assertIsNone(parting(EVEN_FROM_4, form))
        self.assertIs(within(form, EVEN_FROM_4), True)
        self.assertIs(within(EVEN_FROM_4, form), True)
        self.assertEqual(both(form, form), EVEN_FROM_4)
        self.assertEqual(either(form, form), EVEN_FROM_4)
        self.assertEqual(less(form, form), NOTHING)

    def test_a_parting_at_the_very_last_number_of_a_turn(self):
        one = (3000, 24, (), tuple(range(3000, 3024)))
        other = (0, 35, (), tuple(range(35)))
        self.assertEqual(parting(one, other), 0)
        self.assertIsNone(parting((3000, 24, tuple(range(3000)), one[3]), other))
        self.assertEqual(parting((3000, 840, (), ()), (3000, 840, (), (3839,))), 3839)
        self.assertEqual(parting((3000, 840, (), (3839,)), (3000, 840, (), ())), 3839)
        self.assertIs(within((3000, 840, (), (3839,)), (3000, 840, (), ())), False)


class Refusals(unittest.TestCase):
    def refused(self, kind, one, other):
        for ask in PAIR_ASKS:
            with self.subTest(ask=ask.__name__, one=one, other=other):
                with self.assertRaises(StairError) as caught:
                    ask(one, other)
                self.assertIs(type(caught.exception), kind)

    def test_what_is_no_stair_in_either_place(self):
        for thing in NO_STAIRS:
            self.refused(NoStair, thing, ALL)
            self.refused(NoStair, ALL, thing)
            self.refused(NoStair, thing, thing)

    def test_no_stair_goes_ahead_of_too_great(self):
        for thing in NO_STAIRS:
            for great in TOO_GREAT:
                self.refused(NoStair, thing, great)
                self.refused(NoStair, great, thing)

    def test_too_great_in_either_place(self):
        for great in TOO_GREAT:
            self.refused(TooGreat, great, ALL)
            self.refused(TooGreat, ALL, great)
            self.refused(TooGreat, great, great)

    def test_the_greatest_that_is_let_by(self):
        for stair in JUST_LET_BY:
            for ask in PAIR_ASKS:
                ask(stair, ALL)
                ask(NOTHING, stair)
                ask(stair, stair)

    def test_common_multiples_up_to_840_are_let_by(self):
        for p, q in ((840, 1), (840, 840), (24, 35), (7, 120), (420, 8), (280, 168), (29, 28)):
            for ask in PAIR_ASKS:
                ask((0, p, (), (0,)), (0, q, (), (0,)))
                ask((0, q, (), (0,)), (0, p, (), (0,)))

    def test_common_multiples_above_840(self):
        for p, q in ((2, 421), (29, 30), (840, 9), (420, 16), (839, 840), (840, 11)):
            self.refused(TooGreat, (0, p, (), (0,)), (0, q, (), (0,)))
            self.refused(TooGreat, (0, q, (), (0,)), (0, p, (), (0,)))

    def test_the_steps_count_as_they_are_handed_in(self):
        all_by_two = (0, 2, (), (0, 1))
        nothing_by_421 = (0, 421, (), ())
        self.refused(TooGreat, all_by_two, nothing_by_421)
        self.refused(TooGreat, nothing_by_421, all_by_two)
        self.assertEqual(both(least(all_by_two), nothing_by_421), NOTHING)

    def test_what_was_refused_may_be_asked_again(self):
        for _ in range(2):
            self.refused(NoStair, [0, 1, (), ()], ALL)
            self.refused(TooGreat, (3001, 1, (), ()), ALL)
            self.assertEqual(both(ALL, ALL), ALL)


if __name__ == "__main__":
    unittest.main()
