"""What the tests of stairs share: stairs by their plain words, and things that are none."""

from functools import lru_cache
from itertools import combinations
from math import lcm


def held(stair, end):
    """The numbers below end that a stair holds, straight by point 7."""
    _, step, once, again = stair
    numbers = set(once)
    for number in again:
        numbers.update(range(number, end, step))
    return {number for number in numbers if number < end}


def written_out(numbers, base, step):
    """A stair of these numbers with just this base and step, in no least form."""
    once = tuple(sorted(n for n in numbers if n < base))
    again = tuple(sorted(n for n in numbers if base <= n < base + step))
    return (base, step, once, again)


@lru_cache(maxsize=None)
def tried_least(stair):
    """The least form by trying every step, and of each step every base, rising."""
    for step in range(1, stair[1] + 1):
        end = stair[0] + lcm(step, stair[1]) + step
        numbers = held(stair, end)
        for base in range(stair[0] + 1):
            form = written_out(numbers, base, step)
            if held(form, end) == numbers:
                return form
    raise AssertionError("a stair is always equal to itself")


def rows(low, end):
    numbers = range(low, end)
    return [row for size in range(len(numbers) + 1) for row in combinations(numbers, size)]


def all_stairs(greatest_base, greatest_step):
    return [
        (base, step, once, again)
        for base in range(greatest_base + 1)
        for step in range(1, greatest_step + 1)
        for once in rows(0, base)
        for again in rows(base, base + step)
    ]


NOTHING = (0, 1, (), ())
ALL = (0, 1, (), (0,))

NO_STAIRS = [
    None,
    True,
    False,
    0,
    7,
    "",
    "0 1 : : 0",
    "abcd",
    (),
    [],
    [0, 1, (), (0,)],
    [[0, 1, (), (0,)]],
    ((0, 1, (), (0,)),),
    (0, 1, ()),
    (0, 1, (), (), ()),
    (0, 1, [], ()),
    (0, 1, (), []),
    (2, 1, [1], (2,)),
    (0, 1, (), [0]),
    (0, 1, None, ()),
    (0, 1, (), None),
    (0, 1, "", ""),
    (0, 1, 0, 0),
    (1, 1, 0, ()),
    (None, 1, (), ()),
    (0, None, (), ()),
    ("0", 1, (), ()),
    (0, "1", (), ()),
    ((0,), 1, (), ()),
    (0, (1,), (), ()),
    (False, 1, (), ()),
    (True, 1, (), ()),
    (0, True, (), ()),
    (2, 1, (True,), ()),
    (2, 1, (False, 1), ()),
    (0, 2, (), (False,)),
    (0, 2, (), (0, True)),
    (2, 1, (None,), ()),
    (2, 1, ("1",), ()),
    (2, 1, ((1,),), ()),
    (2, 1, ([1],), ()),
    (0, 1, (), (None,)),
    (0, 1, (), ("0",)),
    (0, 1, (), ((0,),)),
    (-1, 1, (), ()),
    (-1, 2, (), (0,)),
    (0, 0, (), ()),
    (0, -1, (), ()),
    (0, 0, (), (0,)),
    (3, 2, (-1,), ()),
    (3, 2, (3,), ()),
    (0, 1, (0,), ()),
    (3, 2, (), (2,)),
    (3, 2, (), (5,)),
    (3, 2, (0, 1, 3), ()),
    (3, 2, (), (3, 5)),
    (3, 2, (1, 0), ()),
    (3, 2, (), (4, 3)),
    (3, 2, (1, 1), ()),
    (3, 2, (), (4, 4)),
    (4, 4, (0, 2, 1), (4,)),
    (4, 4, (0,), (4, 6, 5)),
    # no stairs, though base or step is beyond the bounds as well
    (3001, 1, (5, 5), ()),
    (3001, 1, (3001,), ()),
    (0, 841, (), (841,)),
    (0, 841, [], ()),
    (3001, 841, (), (True,)),
    (-(10 ** 59), 1, (), ()),
    (10 ** 59, 0, (), ()),
    (10 ** 59, 10 ** 59, (), (2 * 10 ** 59,)),
]

TOO_GREAT = [
    (3001, 1, (), ()),
    (3001, 1, (3000,), (3001,)),
    (0, 841, (), ()),
    (0, 841, (), (0, 840)),
    (3001, 841, (), ()),
    (10 ** 59, 10 ** 59, (0,), (10 ** 59,)),
]

JUST_LET_BY = [
    (3000, 1, (), ()),
    (3000, 1, (0, 2999), (3000,)),
    (0, 840, (), ()),
    (0, 840, (), (0, 839)),
    (3000, 840, tuple(range(0, 3000, 7)), (3000, 3839)),
]
