"""Walks, lists of counts of ways: where they lead, and shortest ones from a place to a goal."""

from stairrooms.errors import NoWalk, TooGreat
from stairrooms.houses import is_open, led_to, refuse_bad_places, refuse_no_house
from stairrooms.stairs import is_whole

LONGEST_WALK = 20000


# A longer list than a walk may be is none to a looker either.
def is_walk(thing):
    if not isinstance(thing, list) or len(thing) > LONGEST_WALK:
        return False
    return all([is_whole(count) for count in thing])


def refuse_long_walk(walk):
    if len(walk) > LONGEST_WALK:
        raise TooGreat(f"a walk has more than {LONGEST_WALK} ways")


# A count below 0 is asked for here, since an index would take it from the end.
def can_go(house, place, count):
    return 0 <= count < len(house[1]) and is_open(house[1][count], place)


# As far as the walk can be gone: where it can't be gone to its end, the places are too few.
def places_gone(house, place, walk):
    places = [place]
    for count in walk:
        if not can_go(house, places[-1], count):
            return places
        places.append(led_to(house[1][count], places[-1]))
    return places


def walked(house, place, walk):
    refuse_no_house(house)
    refuse_bad_places(house, [place])
    refuse_long_walk(walk)
    places = places_gone(house, place, walk)
    if len(places) <= len(walk):
        raise NoWalk(len(places) - 1)
    return places


# Room by room, so that a search looks only at the ways of the room where it is.
def counts_by_room(house):
    counts = [[] for room in range(house[0])]
    for count, way in enumerate(house[1]):
        counts[way[0]].append(count)
    return counts


# No shortest walk meets a number above this one (point 17).
def greatest_met(house, place, goal):
    return max(place[1], goal[1]) + house[0] * house[0]


# Told of each place that was found: the place ahead of it and the way between them. The
# places nearest to the first one are found first, and nothing is sought behind the goal.
def found_from(house, place, goal):
    greatest = greatest_met(house, place, goal)
    counts = counts_by_room(house)
    found = {place: None}
    row = [place]
    looked = 0
    while looked < len(row) and goal not in found:
        here = row[looked]
        looked += 1
        for count in counts[here[0]]:
            way = house[1][count]
            there = led_to(way, here)
            if is_open(way, here) and there[1] <= greatest and there not in found:
                found[there] = (here, count)
                row.append(there)
    return found


def walk_back(found, goal):
    walk = []
    step = found[goal]
    while step is not None:
        walk.append(step[1])
        step = found[step[0]]
    return list(reversed(walk))


# The goal's number may be above those that may be handed in.
def sought_walk(house, place, goal):
    found = found_from(house, place, goal)
    if goal not in found:
        return None
    return walk_back(found, goal)


def shortest(house, place, goal):
    refuse_no_house(house)
    refuse_bad_places(house, [place, goal])
    return sought_walk(house, place, goal)
