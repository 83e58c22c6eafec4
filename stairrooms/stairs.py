"""Stairs (base, step, once, again): whole numbers from 0 on that repeat by step from base on.

Within the program a stair is reckoned with as marks, a list that tells of each number
below its length whether it is held; from a base on the marks repeat by a step.
"""

from stairrooms.errors import NoStair, TooGreat

GREATEST_BASE = 3000
GREATEST_STEP = 840
GREATEST_MOVE = 3000


# To Python a truth is an int too; here it stands for no whole number.
def is_whole(thing):
    return isinstance(thing, int) and not isinstance(thing, bool)


def is_rising_row(thing, low, end):
    if not isinstance(thing, tuple):
        return False
    lowest = low
    for number in thing:
        if not is_whole(number) or number < lowest or number >= end:
            return False
        lowest = number + 1
    return True


def are_stair_places(base, step, once, again):
    if not is_whole(base) or not is_whole(step) or base < 0 or step < 1:
        return False
    return is_rising_row(once, 0, base) and is_rising_row(again, base, base + step)


def is_stair(thing):
    if not isinstance(thing, tuple) or len(thing) != 4:
        return False
    return are_stair_places(thing[0], thing[1], thing[2], thing[3])


def refuse_no_stair(thing):
    if not is_stair(thing):
        raise NoStair("this is no stair")


def refuse_great_stair(stair):
    if stair[0] > GREATEST_BASE:
        raise TooGreat(f"a base is above {GREATEST_BASE}")
    if stair[1] > GREATEST_STEP:
        raise TooGreat(f"a step is above {GREATEST_STEP}")


# The two refusals are apart since, of two stairs, NoStair of either goes first.
def refuse_bad_stair(thing):
    refuse_no_stair(thing)
    refuse_great_stair(thing)


def marks_below(stair, end):
    marks = [False] * end
    for number in stair[2]:
        if number < end:
            marks[number] = True
    for number in stair[3]:
        for later in range(number, end, stair[1]):
            marks[later] = True
    return marks


# The least step divides every other one, so no more than the divisors are tried.
def least_step(turn):
    whole = len(turn)
    step = 1
    while whole % step != 0 or turn[step:] != turn[:whole - step]:
        step += 1
    return step


# The marks go from 0 to one whole turn behind the base: that is all there is to know.
def stair_of_marks(marks, base):
    step = least_step(marks[base:])
    low = base
    while low > 0 and marks[low - 1] == marks[low - 1 + step]:
        low -= 1
    once = [number for number in range(low) if marks[number]]
    again = [number for number in range(low, low + step) if marks[number]]
    return (low, step, tuple(once), tuple(again))


def least(stair):
    refuse_bad_stair(stair)
    return stair_of_marks(marks_below(stair, stair[0] + stair[1]), stair[0])


def holds(stair, x):
    refuse_bad_stair(stair)
    base = stair[0]
    if x < base:
        return x in stair[2]
    return (base + (x - base) % stair[1]) in stair[3]


def first_of(stair):
    refuse_bad_stair(stair)
    numbers = stair[2] + stair[3]
    return numbers[0] if numbers else None


def how_many_of_row(row, end):
    return len([number for number in row if number < end])


def how_many(stair, x):
    refuse_bad_stair(stair)
    base = stair[0]
    if x <= base:
        return how_many_of_row(stair[2], x)
    turns = (x - base) // stair[1]
    over = (x - base) % stair[1]
    return len(stair[2]) + turns * len(stair[3]) + how_many_of_row(stair[3], base + over)


def rest_of(stair):
    refuse_bad_stair(stair)
    marks = marks_below(stair, stair[0] + stair[1])
    return stair_of_marks([not mark for mark in marks], stair[0])


def moved(stair, k):
    refuse_bad_stair(stair)
    if abs(k) > GREATEST_MOVE:
        raise TooGreat(f"a stair is moved by at most {GREATEST_MOVE}")
    base = max(0, stair[0] + k)
    marks = marks_below(stair, base - k + stair[1])
    return stair_of_marks([False] * max(0, k) + marks[max(0, -k):], base)
