"""Two stairs beside one another: where they part, and what both, either or one of them hold."""

from stairrooms.errors import TooGreat
from stairrooms.stairs import (
    GREATEST_STEP,
    first_of,
    marks_below,
    refuse_great_stair,
    refuse_no_stair,
    stair_of_marks,
)


def greatest_divisor(one, other):
    great = one
    small = other
    while small > 0:
        over = great % small
        great = small
        small = over
    return great


def common_step(one, other):
    return one[1] // greatest_divisor(one[1], other[1]) * other[1]


# No stair in either place goes ahead of what is too great in the other one.
def refuse_bad_pair(one, other):
    refuse_no_stair(one)
    refuse_no_stair(other)
    refuse_great_stair(one)
    refuse_great_stair(other)
    if common_step(one, other) > GREATEST_STEP:
        raise TooGreat(f"the least common multiple of two steps is above {GREATEST_STEP}")


# From the greater base on the two together repeat by their common step, so one such
# turn stands for all that follow.
def chosen(one, other, choice):
    refuse_bad_pair(one, other)
    base = max(one[0], other[0])
    end = base + common_step(one, other)
    marks = [choice(p, q) for p, q in zip(marks_below(one, end), marks_below(other, end))]
    return stair_of_marks(marks, base)


def both(one, other):
    return chosen(one, other, lambda p, q: p and q)


def either(one, other):
    return chosen(one, other, lambda p, q: p or q)


def less(one, other):
    return chosen(one, other, lambda p, q: p and not q)


def parting(one, other):
    return first_of(chosen(one, other, lambda p, q: p != q))


def within(one, other):
    return first_of(less(one, other)) is None
