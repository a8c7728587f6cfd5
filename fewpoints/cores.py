"""Cores, renamings, and whether two spaces are alike.

A core is a space of which no point can be folded away.
"""

from fewpoints.folds import along, foldable, folded, left, sendings
from fewpoints.marks import doubtful, lying, refined, set_apart


def row_to_core(space):
    row = []
    here = space
    can = foldable(here)
    while len(can) > 0:
        row.append(can[0])
        here = folded(here, can[0])
        can = foldable(here)
    return row


def renaming(one, other):
    # Without marks at first, so spaces of two sizes must be told apart here.
    if one[0] != other[0]:
        return None
    unmarked = [0] * one[0]
    return searched(lying(one), lying(other), unmarked, unmarked)


# A renaming that keeps to the marks, or None.
def searched(one_lying, other_lying, one_marks, other_marks):
    finer = refined(one_lying, other_lying, one_marks, other_marks)
    if finer is None:
        return None
    point = doubtful(finer[0])
    if point is None:
        # Each point sees the same as the one with its mark does: so the marks are a renaming.
        return tuple([finer[1].index(mark) for mark in finer[0]])
    tried = []
    for onto, mark in enumerate(finer[1]):
        # Two points that lie just alike can be exchanged: where one of them failed, so does the other.
        if mark == finer[0][point] and other_lying[onto] not in tried:
            found = searched(one_lying, other_lying, set_apart(finer[0], point), set_apart(finer[1], onto))
            if found is not None:
                return found
            tried.append(other_lying[onto])
    return None


def judged(one, other):
    row = row_to_core(one)
    other_row = row_to_core(other)
    names = renaming(along(one, row), along(other, other_row))
    if names is None:
        return ("unlike", row, other_row)
    fence = to_themselves(one, row)
    other_fence = to_themselves(other, other_row)
    core = left(one, row)
    other_core = left(other, other_row)
    forth = sent_on(fence[0], core, [other_core[name] for name in names])
    back = sent_on(other_fence[0], other_core, [core[names.index(name)] for name in range(len(names))])
    # The points of a core are sent to themselves by its row's last sending. So forth and then back
    # is that sending, as is back and then forth the other one, and these are where the fences begin.
    return ("alike", forth, back, fence, other_fence)


# The fence from the row's last sending to what sends each point to itself.
def to_themselves(space, row):
    return list(reversed(sendings(space, row)))


# Sends each point where the row does, and from there, a point of the core, to the goal that stands in its place.
def sent_on(row, core, goals):
    return tuple([goals[core.index(point)] for point in row])
