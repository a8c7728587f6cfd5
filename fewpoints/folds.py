"""Folds: points folded away onto their goals, one by one.

A row of folds is a list of points, each by its number as it is then.
"""

from fewpoints.errors import NoFold, NoPoint
from fewpoints.spaces import is_point, points_over, points_under, same_or_under


def goal(space, point):
    if not is_point(space[0], point):
        raise NoPoint("a number is no point of the space")
    onto = lowest(space, points_over(space, point))
    if onto is None:
        onto = highest(space, points_under(space, point))
    return onto


# The one of the points that lies under all others of them, or None.
def lowest(space, points):
    for point in points:
        if all([same_or_under(space, point, another) for another in points]):
            return point
    return None


# The one of the points that lies over all others of them, or None.
def highest(space, points):
    for point in points:
        if all([same_or_under(space, another, point) for another in points]):
            return point
    return None


def foldable(space):
    return [point for point in range(space[0]) if goal(space, point) is not None]


def folded(space, point):
    if goal(space, point) is None:
        raise NoFold("a point can't be folded away")
    return without(space, point)


def without(space, point):
    # The numbers keep their order among themselves, so the ties keep theirs.
    ties = [(closed_up(a, point), closed_up(b, point)) for a, b in space[1] if point != a and point != b]
    return (space[0] - 1, tuple(ties))


def closed_up(number, gone):
    return number - 1 if number > gone else number


def along(space, row):
    here = space
    for point in row:
        here = folded(here, point)
    return here


def left(space, row):
    gone = [away for away, onto in moves(space, row)]
    return [point for point in range(space[0]) if point not in gone]


def sendings(space, row):
    last = list(range(space[0]))
    told = [tuple(last)]
    for away, onto in moves(space, row):
        last = [onto if point == away else point for point in last]
        told.append(tuple(last))
    return told


# Of each fold the point that is folded away and its goal, both by their first numbers.
def moves(space, row):
    here = space
    first_numbers = list(range(space[0]))
    found = []
    for point in row:
        # The fold goes first: it refuses what has no goal.
        behind = folded(here, point)
        found.append((first_numbers[point], first_numbers[goal(here, point)]))
        first_numbers.pop(point)
        here = behind
    return found
