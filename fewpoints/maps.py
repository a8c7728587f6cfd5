"""Maps from one space to another, and fences of them.

A map is a tuple with a point of the other space for each point of the one.
"""

from fewpoints.spaces import is_point, same_or_under


def is_map(one, other, row):
    if len(row) != one[0]:
        return False
    for goal in row:
        if not is_point(other[0], goal):
            return False
    return keeps_order(one, other, row)


# The row may also be the start of a longer one: then only the points that it sends are looked at.
def keeps_order(one, other, row):
    for a, b in one[1]:
        if a < len(row) and b < len(row) and not same_or_under(other, row[a], row[b]):
            return False
    return True


def below(other, first, second):
    # Rows of two lengths are no maps from one space, and zip would pass over the rest of the longer one.
    if len(first) != len(second):
        return False
    return all([same_or_under(other, a, b) for a, b in zip(first, second)])


def is_fence(one, other, rows):
    if len(rows) == 0:
        return False
    for row in rows:
        if not is_map(one, other, row):
            return False
    for first, second in zip(rows, rows[1:]):
        if not (below(other, first, second) or below(other, second, first)):
            return False
    return True


def many_maps(one, other):
    # Starts that break the order are dropped at once, so far fewer rows are gone through than there are.
    starts = [()]
    for point in range(one[0]):
        starts = longer_starts(one, other, starts)
    return len(starts)


def longer_starts(one, other, starts):
    longer = []
    for start in starts:
        for goal in range(other[0]):
            row = start + (goal,)
            if keeps_order(one, other, row):
                longer.append(row)
    return longer
