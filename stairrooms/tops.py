"""The greatest number that can be come to from a place, or a ring that rises."""

from stairrooms.forward import forward
from stairrooms.rings import ring_places
from stairrooms.stairs import holds
from stairrooms.walks import places_gone, sought_walk


def goes_zero_way(house, walk):
    return any([house[1][count][1] == "zero" for count in walk])


def sees_rise(house, place, walk, ring):
    places = ring_places(house, place, walk, ring)
    if places is None:
        return False
    first = places[0]
    last = places[-1]
    if last[0] != first[0] or last[1] <= first[1]:
        return False
    return min([met[1] for met in places]) >= first[1] and not goes_zero_way(house, ring)


def last_met(places):
    last = {}
    for gone, met in enumerate(places):
        last[met[1]] = gone
    return last


# Behind the last place with a number the walk goes up from it and stays above it. From
# the place's number to the goal's there are more numbers than rooms, so two of these last
# places share a room, and what lies between them rises.
def rising_part(house, place, goal):
    walk = sought_walk(house, place, goal)
    places = places_gone(house, place, walk)
    last = last_met(places)
    begun = {}
    number = place[1]
    gone = last[number]
    while places[gone][0] not in begun:
        begun[places[gone][0]] = gone
        number += 1
        gone = last[number]
    first = begun[places[gone][0]]
    return ("rises", walk[:first], walk[first:gone])


# The numbers are bounded just where no room can be come to with this number (point 25).
def unbounded_goals(house, place, stairs):
    number = place[1] + house[0]
    return [(room, number) for room, stair in enumerate(stairs) if holds(stair, number)]


def greatest(house, place):
    stairs = forward(house, place)
    goals = unbounded_goals(house, place, stairs)
    if goals:
        return rising_part(house, place, goals[0])
    number = max([max(stair[2]) for stair in stairs if stair[2]])
    rooms = [room for room, stair in enumerate(stairs) if number in stair[2]]
    return ("most", number, sought_walk(house, place, (rooms[0], number)))
