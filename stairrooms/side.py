"""A house and a bare one side by side: its words are those that are words of both."""

from stairrooms.errors import NotBare, TooGreat
from stairrooms.houses import GREATEST_MANY, GREATEST_WAYS, refuse_no_house


def is_bare(house):
    refuse_no_house(house)
    return all([way[1] == "stay" for way in house[1]])


def beside_way(way, bare):
    many = bare[0]
    beside = [other for other in bare[1] if other[3] == way[3]]
    return [(way[0] * many + other[0], way[1], way[2] * many + other[2], way[3]) for other in beside]


def side_by_side(house, bare):
    refuse_no_house(house)
    if not is_bare(bare):
        raise NotBare("each way of the second house is to stay")
    ways = []
    for way in house[1]:
        ways.extend(beside_way(way, bare))
    if house[0] * bare[0] > GREATEST_MANY or len(ways) > GREATEST_WAYS:
        raise TooGreat(f"side by side there are more than {GREATEST_MANY} rooms or {GREATEST_WAYS} ways")
    return (house[0] * bare[0], tuple(ways))
