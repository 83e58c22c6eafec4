"""Forward from a place: with which numbers each room can be come to, told as stairs.

Within the program a level is a list of truths, one for each room: whether the room can
be come to with the level's number.
"""

from stairrooms.errors import TooGreat
from stairrooms.houses import led_to_from, refuse_bad_places, refuse_no_house
from stairrooms.levels import kept, risen
from stairrooms.stairs import holds, stair_of_marks

GREATEST_LEVEL = 3000


def ways_by_room(house):
    ways = [[] for room in range(house[0])]
    for way in house[1]:
        ways[way[0]].append(way)
    return ways


# beside tells of a place the places that are right behind it.
def reached(place, beside):
    found = {place: True}
    row = [place]
    looked = 0
    while looked < len(row):
        here = row[looked]
        looked += 1
        for there in beside(here):
            if there not in found:
                found[there] = True
                row.append(there)
    return row


# A walk that goes above the top comes back to it in a room that the house keeps: so the
# kept pairs stand for all that lies above.
def low_beside(ways, keeps, top, here):
    low = [there for there in led_to_from(ways[here[0]], here) if there[1] <= top]
    if here[1] < top:
        return low
    return low + [(q, top) for p, q in keeps if p == here[0]]


# The levels from 0 to the place's own.
def low_levels(house, place):
    ways = ways_by_room(house)
    keeps = kept(house)
    levels = [[False] * house[0] for number in range(place[1] + 1)]
    for room, number in reached(place, lambda here: low_beside(ways, keeps, place[1], here)):
        levels[number][room] = True
    return levels


def next_level(rises, level):
    risen_to = [False] * len(level)
    for p, q in rises:
        if level[p]:
            risen_to[q] = True
    return risen_to


# From the place's own level on, each level hangs on the one ahead of it alone (point 20):
# as soon as one was there before, all repeats from there on. Told are the levels from 0
# on, to the end of the first turn, and at which level that turn begins.
def all_levels(house, place):
    rises = risen(house)
    low = low_levels(house, place)
    high = [low[-1]]
    level = next_level(rises, low[-1])
    while level not in high:
        high.append(level)
        level = next_level(rises, level)
    return (low[:-1] + high, place[1] + high.index(level))


def stair_of_room(levels, base, room):
    return stair_of_marks([level[room] for level in levels], base)


def forward(house, place):
    refuse_no_house(house)
    refuse_bad_places(house, [place])
    told = all_levels(house, place)
    return [stair_of_room(told[0], told[1], room) for room in range(house[0])]


def rooms_at(house, place, l):
    stairs = forward(house, place)
    if l > GREATEST_LEVEL:
        raise TooGreat(f"a level is above {GREATEST_LEVEL}")
    return [room for room, stair in enumerate(stairs) if holds(stair, l)]
