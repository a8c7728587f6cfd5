"""Spaces: how they are made of pairs, and what can be asked of them.

A space is a tuple (many, ties): how many points there are, and the tuple of
all pairs (a, b) of which a lies under b, in the order of tuples.
"""

from fewpoints.errors import NoPoint, Round, TooMany

MOST_POINTS = 16


def made(many, pairs):
    refuse_too_many(many)
    for a, b in pairs:
        if not (is_point(many, a) and is_point(many, b)):
            raise NoPoint("a pair has a number that is no point")
    led = led_on(many, pairs)
    for point in range(many):
        if (point, point) in led:
            raise Round("pairs lead from a point back to it")
    return (many, tuple(sorted(led)))


def refuse_too_many(many):
    # The errors' words hold no numbers: a number may have more figures than Python turns into a text.
    if not 1 <= many <= MOST_POINTS:
        raise TooMany("a space has 1 to 16 points")


# A dict with a key (a, b) wherever one or more pairs lead from a to b.
def led_on(many, pairs):
    led = {}
    for a, b in pairs:
        # A pair of a point and itself tells nothing, so it must not look like a way round.
        if a != b:
            led[(a, b)] = True
    # The middle point is walked outermost: then one walk finds the ways over any number of points.
    for middle in range(many):
        for a in range(many):
            for b in range(many):
                if (a, middle) in led and (middle, b) in led:
                    led[(a, b)] = True
    return led


def is_point(many, number):
    return 0 <= number < many


def under(space, a, b):
    if not (is_point(space[0], a) and is_point(space[0], b)):
        raise NoPoint("a number is no point of the space")
    return (a, b) in space[1]


# As under, but also True of the same point twice; nothing is refused.
def same_or_under(space, a, b):
    return a == b or (a, b) in space[1]


def points_under(space, point):
    return [a for a, b in space[1] if b == point]


def points_over(space, point):
    return [b for a, b in space[1] if a == point]


def pieces(space):
    found = []
    seen = {}
    for point in range(space[0]):
        if point not in seen:
            piece = piece_of(space, point)
            for member in piece:
                seen[member] = True
            found.append(piece)
    return found


def piece_of(space, point):
    reached = {point: True}
    waiting = [point]
    while len(waiting) > 0:
        here = waiting.pop()
        for near in points_under(space, here) + points_over(space, here):
            if near not in reached:
                reached[near] = True
                waiting.append(near)
    return sorted(reached)


def even_count(space):
    # For each point its part: the rising rows that end there, odd ones less even ones. Each row that ends
    # at a point under it, with it set on, changes between odd and even; so the rows need not be gone through.
    parts = {}
    for point in from_below(space):
        parts[point] = 1 - sum([parts[a] for a in points_under(space, point)])
    return sum(parts.values())


# All points, each behind those under it: who lies under another has fewer points under it.
def from_below(space):
    return sorted(range(space[0]), key=lambda point: len(points_under(space, point)))
