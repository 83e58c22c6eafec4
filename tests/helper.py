"""What the tests share: stairs and houses by their plain words, and things that are none."""

import unittest
from functools import lru_cache
from itertools import combinations
from math import lcm

from stairrooms.errors import StairError


class Case(unittest.TestCase):
    def refused(self, kind, ask, *things):
        """The refusal that is told, which is of just this class."""
        with self.assertRaises(StairError) as caught:
            ask(*things)
        self.assertIs(type(caught.exception), kind)
        self.assertIsInstance(caught.exception, ValueError)
        return caught.exception

    # assertEqual would take minutes to write out how two long lists differ.
    def same_long_lists(self, told, asked):
        self.assertEqual(len(told), len(asked))
        self.assertTrue(told == asked, "two long lists differ")


def held(stair, end):
    """The numbers below end that a stair holds, straight by point 7."""
    _, step, once, again = stair
    numbers = set(once)
    for number in again:
        numbers.update(range(number, end, step))
    return {number for number in numbers if number < end}


def written_out(numbers, base, step):
    """A stair of these numbers with just this base and step, in no least form."""
    once = tuple(sorted(n for n in numbers if n < base))
    again = tuple(sorted(n for n in numbers if base <= n < base + step))
    return (base, step, once, again)


@lru_cache(maxsize=None)
def tried_least(stair):
    """The least form by trying every step, and of each step every base, rising."""
    for step in range(1, stair[1] + 1):
        end = stair[0] + lcm(step, stair[1]) + step
        numbers = held(stair, end)
        for base in range(stair[0] + 1):
            form = written_out(numbers, base, step)
            if held(form, end) == numbers:
                return form
    raise AssertionError("a stair is always equal to itself")


def rows(low, end):
    numbers = range(low, end)
    return [row for size in range(len(numbers) + 1) for row in combinations(numbers, size)]


def all_stairs(greatest_base, greatest_step):
    return [
        (base, step, once, again)
        for base in range(greatest_base + 1)
        for step in range(1, greatest_step + 1)
        for once in rows(0, base)
        for again in rows(base, base + step)
    ]


NOTHING = (0, 1, (), ())
ALL = (0, 1, (), (0,))

NO_STAIRS = [
    None,
    True,
    False,
    0,
    7,
    "",
    "0 1 : : 0",
    "abcd",
    (),
    [],
    [0, 1, (), (0,)],
    [[0, 1, (), (0,)]],
    ((0, 1, (), (0,)),),
    (0, 1, ()),
    (0, 1, (), (), ()),
    (0, 1, [], ()),
    (0, 1, (), []),
    (2, 1, [1], (2,)),
    (0, 1, (), [0]),
    (0, 1, None, ()),
    (0, 1, (), None),
    (0, 1, "", ""),
    (0, 1, 0, 0),
    (1, 1, 0, ()),
    (None, 1, (), ()),
    (0, None, (), ()),
    ("0", 1, (), ()),
    (0, "1", (), ()),
    ((0,), 1, (), ()),
    (0, (1,), (), ()),
    (False, 1, (), ()),
    (True, 1, (), ()),
    (0, True, (), ()),
    (2, 1, (True,), ()),
    (2, 1, (False, 1), ()),
    (0, 2, (), (False,)),
    (0, 2, (), (0, True)),
    (2, 1, (None,), ()),
    (2, 1, ("1",), ()),
    (2, 1, ((1,),), ()),
    (2, 1, ([1],), ()),
    (0, 1, (), (None,)),
    (0, 1, (), ("0",)),
    (0, 1, (), ((0,),)),
    (-1, 1, (), ()),
    (-1, 2, (), (0,)),
    (0, 0, (), ()),
    (0, -1, (), ()),
    (0, 0, (), (0,)),
    (3, 2, (-1,), ()),
    (3, 2, (3,), ()),
    (0, 1, (0,), ()),
    (3, 2, (), (2,)),
    (3, 2, (), (5,)),
    (3, 2, (0, 1, 3), ()),
    (3, 2, (), (3, 5)),
    (3, 2, (1, 0), ()),
    (3, 2, (), (4, 3)),
    (3, 2, (1, 1), ()),
    (3, 2, (), (4, 4)),
    (4, 4, (0, 2, 1), (4,)),
    (4, 4, (0,), (4, 6, 5)),
    # no stairs, though base or step is beyond the bounds as well
    (3001, 1, (5, 5), ()),
    (3001, 1, (3001,), ()),
    (0, 841, (), (841,)),
    (0, 841, [], ()),
    (3001, 841, (), (True,)),
    (-(10 ** 59), 1, (), ()),
    (10 ** 59, 0, (), ()),
    (10 ** 59, 10 ** 59, (), (2 * 10 ** 59,)),
]

TOO_GREAT = [
    (3001, 1, (), ()),
    (3001, 1, (3000,), (3001,)),
    (0, 841, (), ()),
    (0, 841, (), (0, 840)),
    (3001, 841, (), ()),
    (10 ** 59, 10 ** 59, (0,), (10 ** 59,)),
]

JUST_LET_BY = [
    (3000, 1, (), ()),
    (3000, 1, (0, 2999), (3000,)),
    (0, 840, (), ()),
    (0, 840, (), (0, 839)),
    (3000, 840, tuple(range(0, 3000, 7)), (3000, 3839)),
]

# Houses

DEEDS = ["up", "down", "stay", "zero"]
SIGNS = "abcdefghijklmnopqrstuvwxyz"


class Dice:
    """Throws that are the same in each run and under each Python."""

    def __init__(self, seed):
        self.state = seed

    def below(self, end):
        self.state = (self.state * 6364136223846793005 + 1442695040888963407) % 2 ** 64
        return (self.state >> 33) % end

    def of(self, things):
        return things[self.below(len(things))]


def thrown_house(dice, many, count, deeds=DEEDS):
    """A house of many rooms and at most count ways."""
    ways = []
    for _ in range(count):
        way = (dice.below(many), dice.of(deeds), dice.below(many), dice.of("abc"))
        if way not in ways:
            ways.append(way)
    return (many, tuple(ways))


def thrown_houses(seed, count):
    dice = Dice(seed)
    houses = []
    for _ in range(count):
        many = 1 + dice.below(5)
        houses.append(thrown_house(dice, many, dice.below(3 * many + 2)))
    return houses


def gone(way, place):
    """Where a way leads from a place, or None where it isn't open, straight by point 13."""
    room, deed, other, _ = way
    at, number = place
    if room != at:
        return None
    if deed == "up":
        return (other, number + 1)
    if deed == "down":
        return (other, number - 1) if number >= 1 else None
    if deed == "stay":
        return (other, number)
    return (other, number) if number == 0 else None


def lengths_from(ways, place, low, high):
    """How many ways it takes at least to each place, met numbers from low to high alone."""
    lengths = {place: 0}
    ring = [place]
    while ring:
        farther = []
        for here in ring:
            for way in ways:
                there = gone(way, here)
                if there is not None and low <= there[1] <= high and there not in lengths:
                    lengths[there] = lengths[here] + 1
                    farther.append(there)
        ring = farther
    return lengths


def went(house, place, walk):
    """The places that a walk meets, straight by point 16, or None where it can't be walked."""
    places = [place]
    for count in walk:
        there = gone(house[1][count], places[-1]) if count in range(len(house[1])) else None
        if there is None:
            return None
        places.append(there)
    return places


def found_places(house, place, top):
    """All places with numbers to top that can be come to; the search goes as far above as point 17 asks."""
    high = max(top, place[1]) + house[0] * house[0]
    ways = {room: [way for way in house[1] if way[0] == room] for room in range(house[0])}
    found = {place}
    row = [place]
    for here in row:
        for way in ways[here[0]]:
            there = gone(way, here)
            if there is not None and there[1] <= high and there not in found:
                found.add(there)
                row.append(there)
    return {there for there in found if there[1] <= top}


def places_to(house, goal, top):
    """All places with numbers to top from which the goal can be come to, without turning the house about."""
    high = max(top, goal[1]) + house[0] * house[0]
    ahead = {}
    for here in places_of(house, high + 1):
        for way in house[1]:
            ahead.setdefault(gone(way, here), []).append(here)
    found = {goal}
    row = [goal]
    for there in row:
        for here in ahead.get(there, []):
            if here not in found:
                found.add(here)
                row.append(here)
    return {there for there in found if there[1] <= top}


def numbers_of_rooms(house, places):
    return [{number for room, number in places if room == r} for r in range(house[0])]


def rises_by_words(house, place, walk, ring):
    """Whether ring is one that rises behind the walk, straight by point 24; both lists of whole numbers."""
    ahead = went(house, place, walk)
    places = went(house, ahead[-1], ring) if ahead else None
    if not ring or not places:
        return False
    zeros = [count for count in ring if house[1][count][1] == "zero"]
    (room, number), (other, raised) = places[0], places[-1]
    return other == room and raised > number and all(met >= number for _, met in places) and not zeros


def stays_by_words(house, place, walk, ring):
    """Whether ring is one that stays behind the walk, straight by point 26; both lists of whole numbers."""
    ahead = went(house, place, walk)
    places = went(house, ahead[-1], ring) if ahead else None
    return bool(ring) and bool(places) and places[0] == places[-1]


def longest_from(house, place):
    """How many ways a longest walk has, None where there is none: all places by just so many ways, and by one more."""
    high = place[1] + house[0]
    here, length = {place}, 0
    while True:
        there = {gone(way, at) for at in here for way in house[1]} - {None}
        if not there:
            return length
        length += 1
        # so many ways only where a place is met twice, or where the numbers rise without end (point 25)
        if length > house[0] * high or any(number >= high for _, number in there):
            return None
        here = there


def places_behind(house, places, sign):
    """Where the ways with a sign lead from any of these places."""
    return {gone(way, place) for place in places for way in house[1] if way[3] == sign} - {None}


def places_of(house, end):
    return [(room, number) for room in range(house[0]) for number in range(end)]


def full_house(count=100):
    """Twelve rooms and count ways, all of them other ones."""
    ways = [
        (room, deed, (room + hop) % 12, "z")
        for hop in range(1, 12)
        for room in range(12)
        for deed in DEEDS
    ]
    return (12, tuple(ways[:count]))


def rings_house(up, down, exit_at):
    """A ring up from room 0, from there a ring down, which can be left at 0 in one room alone."""
    ways = [(r, "up", (r + 1) % up, "u") for r in range(up)]
    ways.append((0, "stay", up, "s"))
    ways += [(up + r, "down", up + (r + 1) % down, "d") for r in range(down)]
    ways.append((up + exit_at, "zero", up + down, "z"))
    return (up + down + 1, tuple(ways))


def side_rings(lengths, gathers):
    """Rings up, one for each length, all begun from (0, 0); their last rooms lead on to one more room, if gathers."""
    ways, low = [], 0
    for length in lengths:
        ways += [(low + r, "up", low + (r + 1) % length, "u") for r in range(length)]
        if low > 0:
            ways.append((0, "zero", low, "z"))
        if gathers:
            ways.append((low + length - 1, "stay", sum(lengths), "g"))
        low += length
    return (low + gathers, tuple(ways))


def late_ring(many):
    """A ring up with one short cut: as late as can be all rooms are there at each level."""
    ways = [(r, "up", (r + 1) % many, "u") for r in range(many)]
    return (many, tuple(ways + [(many - 1, "up", 1, "c")]))


LONE = (1, ())
PLAIN = (2, ((0, "up", 1, "a"), (1, "zero", 0, "b")))
MINGLED = (
    3,
    (
        (0, "up", 0, "a"),
        (0, "stay", 1, "b"),
        (1, "down", 1, "a"),
        (1, "zero", 2, "c"),
        (2, "up", 1, "z"),
        (2, "zero", 2, "z"),
        (2, "down", 0, "m"),
    ),
)

HOUSES = [
    LONE,
    (12, ()),
    PLAIN,
    MINGLED,
    (1, ((0, "up", 0, "a"), (0, "down", 0, "a"), (0, "stay", 0, "a"), (0, "zero", 0, "a"))),
    (1, ((0, "up", 0, "a"), (0, "up", 0, "z"))),
    (12, ((11, "up", 0, "a"), (0, "down", 11, "a"), (10, "stay", 9, "x"))),
    full_house(99),
    full_house(100),
    rings_house(5, 6, 1),
]

WAY = (0, "up", 0, "a")


# Things that are no house, place, stair, list of such, nor walk, of each sort that a looker may be handed
STRANGE = [
    None, True, False, 0, 1, -1, 10 ** 59, "", "a", "up", "0 1 : : 0", (), (None,), (True, False), ("",), [None],
    [True], ["a"], [[]], [()], ((),), [[0]], [(0,)], ((0, 0),), (0,), (0, 0, 0), [0, 0], ["0", "0"],
]


def deep_within(thing, depth):
    for _ in range(depth):
        thing = (thing,)
    return thing


NO_HOUSES = [
    None,
    True,
    False,
    0,
    1,
    -1,
    10 ** 59,
    "",
    "1:",
    "1",
    "ab",
    (),
    [],
    (1,),
    ((),),
    (1, (), ()),
    (1, (WAY,), ()),
    [1, ()],
    [1, (WAY,)],
    ([1, ()],),
    ((1, ()),),
    ((), 1),
    # the number of rooms
    (0, ()),
    (-1, ()),
    (13, ()),
    (10 ** 59, ()),
    (-(10 ** 59), ()),
    (True, ()),
    (False, ()),
    (True, (WAY,)),
    (None, ()),
    ("1", ()),
    ((1,), ()),
    ([1], ()),
    # the ways as a whole
    (1, []),
    (1, [WAY]),
    (1, None),
    (1, 0),
    (1, True),
    (1, ""),
    (1, "abcd"),
    (1, WAY),
    (1, (WAY, WAY)),
    (2, (WAY, (0, "up", 1, "a"), WAY)),
    full_house(101),
    full_house(120),
    (12, full_house(99)[1] + full_house(1)[1]),
    # a way's form
    (1, ((),)),
    (1, (None,)),
    (1, (0,)),
    (1, (True,)),
    (1, ("0 up 0 a",)),
    (1, ("abcd",)),
    (1, ([0, "up", 0, "a"],)),
    (1, ((WAY,),)),
    (1, ([WAY],)),
    (1, ((0, "up", 0),)),
    (1, ((0, "up", 0, "a", "a"),)),
    (1, (("up", 0, "a"),)),
    (1, (WAY, ())),
    (1, (WAY, None)),
    # a way's rooms
    (1, ((-1, "up", 0, "a"),)),
    (1, ((0, "up", -1, "a"),)),
    (1, ((1, "up", 0, "a"),)),
    (1, ((0, "up", 1, "a"),)),
    (2, ((2, "up", 0, "a"),)),
    (2, ((0, "up", 2, "a"),)),
    (12, ((12, "up", 0, "a"),)),
    (12, ((0, "up", 12, "a"),)),
    (2, ((10 ** 59, "up", 0, "a"),)),
    (2, ((True, "up", 0, "a"),)),
    (2, ((0, "up", True, "a"),)),
    (2, ((False, "up", 0, "a"),)),
    (2, ((0, "up", False, "a"),)),
    (2, ((None, "up", 0, "a"),)),
    (2, ((0, "up", None, "a"),)),
    (2, (("0", "up", 0, "a"),)),
    (2, ((0, "up", "0", "a"),)),
    (2, (((0,), "up", 0, "a"),)),
    (2, ((0, "up", [0], "a"),)),
    # a way's deed
    (1, ((0, "", 0, "a"),)),
    (1, ((0, "Up", 0, "a"),)),
    (1, ((0, "UP", 0, "a"),)),
    (1, ((0, "up ", 0, "a"),)),
    (1, ((0, " up", 0, "a"),)),
    (1, ((0, "u", 0, "a"),)),
    (1, ((0, "left", 0, "a"),)),
    (1, ((0, "updown", 0, "a"),)),
    (1, ((0, "zeros", 0, "a"),)),
    (1, ((0, None, 0, "a"),)),
    (1, ((0, True, 0, "a"),)),
    (1, ((0, 0, 0, "a"),)),
    (1, ((0, ("up",), 0, "a"),)),
    (1, ((0, ["up"], 0, "a"),)),
    (1, ((0, [], 0, "a"),)),
    # a way's sign
    (1, ((0, "up", 0, ""),)),
    (1, ((0, "up", 0, "ab"),)),
    (1, ((0, "up", 0, "aa"),)),
    (1, ((0, "up", 0, "A"),)),
    (1, ((0, "up", 0, "Z"),)),
    (1, ((0, "up", 0, "`"),)),
    (1, ((0, "up", 0, "{"),)),
    (1, ((0, "up", 0, " "),)),
    (1, ((0, "up", 0, "0"),)),
    (1, ((0, "up", 0, "a "),)),
    (1, ((0, "up", 0, 0),)),
    (1, ((0, "up", 0, None),)),
    (1, ((0, "up", 0, True),)),
    (1, ((0, "up", 0, ("a",)),)),
    (1, ((0, "up", 0, ["a"]),)),
    # one wrong way among good ones
    (1, (WAY, (0, "down", 0, "a"), (0, "stay", 1, "a"))),
    (1, ((0, "stay", 0, "A"), WAY, (0, "down", 0, "a"))),
    # a thing deep within others
    deep_within((), 3000),
    (deep_within(1, 3000), ()),
    (1, deep_within(WAY, 3000)),
    (1, ((deep_within(0, 3000), "up", 0, "a"),)),
    (1, ((0, deep_within("up", 3000), 0, "a"),)),
    (1, ((0, "up", 0, deep_within("a", 3000)),)),
]
