"""Whether all walks from a place end: how many ways a longest one has, or a ring that never ends.

Within the program the steps of a place are tuples (count, there): a way that is open at
it, and the place to which that leads.
"""

from stairrooms.errors import Endless, TooGreat
from stairrooms.forward import forward
from stairrooms.houses import is_open, led_to, refuse_bad_places, refuse_no_house
from stairrooms.pairs import both
from stairrooms.rings import ring_places
from stairrooms.stairs import stair_of_marks
from stairrooms.tops import greatest
from stairrooms.walks import counts_by_room

GREATEST_RANKED = 200


def sees_same(house, place, walk, ring):
    places = ring_places(house, place, walk, ring)
    return places is not None and places[-1] == places[0]


# What is open at 1 is open at all numbers from 1 on, so 0 and 1 stand for all numbers.
def stopping_stair(house, room):
    marks = []
    for number in range(2):
        marks.append(not any([is_open(way, (room, number)) for way in house[1]]))
    return stair_of_marks(marks, 1)


def stops(house, place):
    stairs = forward(house, place)
    return [both(stair, stopping_stair(house, room)) for room, stair in enumerate(stairs)]


# The steps of each place that can be come to; there is an end to these only where the
# numbers are bounded.
def steps_by_place(house, place):
    ways = house[1]
    counts = counts_by_room(house)
    steps = {}
    row = [place]
    while row:
        here = row.pop()
        if here not in steps:
            gone = [count for count in counts[here[0]] if is_open(ways[count], here)]
            steps[here] = [(count, led_to(ways[count], here)) for count in gone]
            row.extend([there for count, there in steps[here]])
    return steps


def places_ahead(steps):
    ahead = {}
    for here in steps:
        ahead[here] = []
    for here in steps:
        for count, there in steps[here]:
            ahead[there].append(here)
    return ahead


# A rank is known as soon as those of all places right behind are known: so that of a place
# from which a ring can be come to never is.
def known_ranks(steps):
    ahead = places_ahead(steps)
    waits = {}
    for here in steps:
        waits[here] = len(steps[here])
    known = {}
    row = [here for here in steps if waits[here] == 0]
    while row:
        here = row.pop()
        known[here] = max([known[there] + 1 for count, there in steps[here]], default=0)
        for before in ahead[here]:
            waits[before] = waits[before] - 1
            if waits[before] == 0:
                row.append(before)
    return known


# Right behind each place without a known rank there is another such one, so that going on
# from one to the next at last comes to one for the second time.
def staying_part(steps, known, place):
    walk = []
    met = {}
    here = place
    while here not in met:
        met[here] = len(walk)
        unknown = [step for step in steps[here] if step[1] not in known]
        walk.append(unknown[0][0])
        here = unknown[0][1]
    return ("same", walk[:met[here]], walk[met[here]:])


def fate(house, place):
    told = greatest(house, place)
    if told[0] == "rises":
        return told
    steps = steps_by_place(house, place)
    known = known_ranks(steps)
    if place in known:
        return ("ends", known[place])
    return staying_part(steps, known, place)


def ranks(house, place):
    refuse_no_house(house)
    refuse_bad_places(house, [place])
    if place[1] > GREATEST_RANKED:
        raise TooGreat(f"ranks are told of places with numbers to {GREATEST_RANKED}")
    if fate(house, place)[0] != "ends":
        raise Endless("there is no longest walk from this place")
    known = known_ranks(steps_by_place(house, place))
    return sorted([(here[0], here[1], known[here]) for here in known])
