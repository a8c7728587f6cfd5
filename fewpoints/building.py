"""Spaces made of spaces."""

from fewpoints.spaces import refuse_too_many, same_or_under


def beside(one, other):
    many = one[0] + other[0]
    refuse_too_many(many)
    behind = [(a + one[0], b + one[0]) for a, b in other[1]]
    return (many, one[1] + tuple(behind))


def times(one, other):
    many = one[0] * other[0]
    refuse_too_many(many)
    ties = []
    for a in range(many):
        for b in range(many):
            if a != b and both_rise(one, other, a, b):
                ties.append((a, b))
    return (many, tuple(ties))


# Whether of two pairs, by their numbers, each part of the first is that of the second or lies under it.
def both_rise(one, other, a, b):
    wide = other[0]
    return same_or_under(one, a // wide, b // wide) and same_or_under(other, a % wide, b % wide)


def turned(space):
    return (space[0], tuple(sorted([(b, a) for a, b in space[1]])))


def topped(space):
    top = space[0]
    refuse_too_many(top + 1)
    return (top + 1, tuple(sorted(list(space[1]) + [(point, top) for point in range(top)])))
