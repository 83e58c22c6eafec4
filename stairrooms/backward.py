"""Backward from a goal: from which numbers of each room it can be come to, told as stairs."""

from stairrooms.forward import forward
from stairrooms.houses import turned_about


# A walk to the goal, gone from its end, is one from the goal in the house turned about.
def backward(house, goal):
    return forward(turned_about(house), goal)
