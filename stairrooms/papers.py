"""Papers of never: stairs that no way leaves, which show that a goal can't be come to."""

from stairrooms.forward import forward
from stairrooms.houses import is_house, is_near_place, raised_by
from stairrooms.pairs import common_step
from stairrooms.stairs import GREATEST_BASE, GREATEST_STEP, holds, is_stair, marks_below
from stairrooms.walks import shortest


def is_near_stair(thing):
    return is_stair(thing) and thing[0] <= GREATEST_BASE and thing[1] <= GREATEST_STEP


def are_near_steps(stairs):
    for one in stairs:
        if any([common_step(one, other) > GREATEST_STEP for other in stairs]):
            return False
    return True


def are_stairs_for(house, thing):
    if not isinstance(thing, list) or len(thing) != house[0]:
        return False
    return all([is_near_stair(stair) for stair in thing]) and are_near_steps(thing)


# The number that a way leads to may lie one below the one that it comes from, so the two
# repeat together only from one number behind the greater base on: one turn from there on
# stands for all that follow.
def is_left_by(way, one, other):
    if way[1] == "zero":
        return holds(one, 0) and not holds(other, 0)
    raised = raised_by(way)
    end = max(one[0], other[0]) + 1 + common_step(one, other)
    starts = marks_below(one, end)[max(0, -raised):]
    ends = marks_below(other, end + 1)[max(0, raised):]
    return any([start and not there for start, there in zip(starts, ends)])


def sees_closed(house, stairs):
    if not is_house(house) or not are_stairs_for(house, stairs):
        return False
    return not any([is_left_by(way, stairs[way[0]], stairs[way[2]]) for way in house[1]])


def sees_never(house, place, goal, stairs):
    if not sees_closed(house, stairs) or not is_near_place(place, house) or not is_near_place(goal, house):
        return False
    return holds(stairs[place[0]], place[1]) and not holds(stairs[goal[0]], goal[1])


def answer(house, place, goal):
    walk = shortest(house, place, goal)
    if walk is None:
        return ("never", forward(house, place))
    return ("walk", walk)
