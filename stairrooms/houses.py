"""Houses (many, ways): rooms, the ways between them, and where these lead from a place."""

from stairrooms.errors import NoHouse, NoPlace, TooGreat
from stairrooms.stairs import is_whole

GREATEST_MANY = 12
GREATEST_WAYS = 100
GREATEST_NUMBER = 1000
RAISED = {"up": 1, "down": -1, "stay": 0, "zero": 0}
TURNED = {"up": "down", "down": "up", "stay": "stay", "zero": "zero"}


def is_room(thing, many):
    return is_whole(thing) and 0 <= thing < many


# Only a text is looked for among the deeds: a list can't be.
def is_deed(thing):
    return isinstance(thing, str) and thing in TURNED


def is_sign(thing):
    return isinstance(thing, str) and len(thing) == 1 and "a" <= thing <= "z"


def is_way(thing, many):
    if not isinstance(thing, tuple) or len(thing) != 4:
        return False
    if not is_room(thing[0], many) or not is_room(thing[2], many):
        return False
    return is_deed(thing[1]) and is_sign(thing[3])


def are_ways(thing, many):
    if not isinstance(thing, tuple) or len(thing) > GREATEST_WAYS:
        return False
    return all([is_way(way, many) for way in thing]) and len(set(thing)) == len(thing)


def is_house(thing):
    if not isinstance(thing, tuple) or len(thing) != 2:
        return False
    return is_whole(thing[0]) and 1 <= thing[0] <= GREATEST_MANY and are_ways(thing[1], thing[0])


def refuse_no_house(thing):
    if not is_house(thing):
        raise NoHouse("this is no house")


# A place as a looker takes it: with a number that isn't refused elsewhere.
def is_near_place(thing, house):
    if not isinstance(thing, tuple) or len(thing) != 2:
        return False
    return is_room(thing[0], house[0]) and is_whole(thing[1]) and 0 <= thing[1] <= GREATEST_NUMBER


# Of several places NoPlace of any goes ahead of TooGreat of another one.
def refuse_bad_places(house, places):
    for place in places:
        if not is_room(place[0], house[0]) or place[1] < 0:
            raise NoPlace("this is no place of the house")
    for place in places:
        if place[1] > GREATEST_NUMBER:
            raise TooGreat(f"the number of a place is above {GREATEST_NUMBER}")


def turned_way(way):
    return (way[2], TURNED[way[1]], way[0], way[3])


def turned_about(house):
    refuse_no_house(house)
    return (house[0], tuple([turned_way(way) for way in house[1]]))


def is_open(way, place):
    if way[0] != place[0]:
        return False
    if way[1] == "down":
        return place[1] > 0
    return way[1] != "zero" or place[1] == 0


def raised_by(way):
    return RAISED[way[1]]


def led_to(way, place):
    return (way[2], place[1] + raised_by(way))


def led_to_from(ways, place):
    return [led_to(way, place) for way in ways if is_open(way, place)]


def open_ways(house, place):
    refuse_no_house(house)
    refuse_bad_places(house, [place])
    return [count for count, way in enumerate(house[1]) if is_open(way, place)]
