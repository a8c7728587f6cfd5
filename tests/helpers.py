"""What several tests need: spaces to ask, and plain second ways to the same answers."""

import itertools
import random
import unittest

from fewpoints.errors import NoFold, NoPoint, NotRead, Round, SpaceError, TooMany

REFUSALS = (TooMany, NoPoint, Round, NoFold, NotRead)
FAR = 10**12
# More figures than Python turns into a text: an error's words must not stumble over it.
FARTHER = 10**6000


class Refusing(unittest.TestCase):
    def assert_refused(self, refusal, call, *arguments):
        """The call is refused as told, and what was handed in stays as it was."""
        before = repr(arguments) if FARTHER not in flat(arguments) else None
        for caught in (refusal, SpaceError, ValueError):
            with self.assertRaises(caught) as context:
                call(*arguments)
            for other in REFUSALS:
                self.assertEqual(isinstance(context.exception, other), other is refusal)
        if before is not None:
            self.assertEqual(repr(arguments), before)


def flat(value):
    if not isinstance(value, (list, tuple)):
        return [abs(value) if isinstance(value, int) else value]
    return [part for entry in value for part in flat(entry)]


def reachable(many, pairs):
    """All (a, b) such that one or more pairs lead from a to b; found by walking on from each point."""
    steps = {a: {d for c, d in pairs if c == a and c != d} for a in range(many)}
    found = set()
    for a in range(many):
        waiting = list(steps[a])
        while waiting:
            b = waiting.pop()
            if (a, b) not in found:
                found.add((a, b))
                waiting.extend(steps[b])
    return found


def goes_round(many, pairs):
    return any(a == b for a, b in reachable(many, pairs))


def space_of(many, pairs):
    return (many, tuple(sorted(reachable(many, pairs))))


def pair_lists(many):
    """Every set of pairs of two different points, as a list."""
    pairs = list(itertools.permutations(range(many), 2))
    for size in range(len(pairs) + 1):
        for chosen in itertools.combinations(pairs, size):
            yield list(chosen)


def all_spaces(many):
    return sorted({space_of(many, pairs) for pairs in pair_lists(many) if not goes_round(many, pairs)})


def small_spaces(most):
    return [space for many in range(1, most + 1) for space in all_spaces(many)]


def some_pairs(seed, many, how_many):
    """Pairs that make a space, in any order, some twice, some of a point and itself; the same for one seed."""
    chance = random.Random(seed)
    ranks = list(range(many))
    chance.shuffle(ranks)
    pairs = []
    for _ in range(how_many):
        a, b = chance.randrange(many), chance.randrange(many)
        pairs.append((a, b) if ranks[a] <= ranks[b] else (b, a))
    return pairs + pairs[: how_many // 4]


def some_spaces(most, how_many):
    """Spaces of 1 to most points, with few and with many ties."""
    spaces = []
    for seed in range(how_many):
        many = 1 + seed % most
        spaces.append(space_of(many, some_pairs(seed, many, seed % (2 * many))))
    return spaces


def chain(many):
    return space_of(many, [(a, a + 1) for a in range(many - 1)])


def apart(many):
    return (many, ())


def same_or_lower(space, a, b):
    return a == b or (a, b) in set(space[1])


def plain_is_map(one, other, row):
    points = range(other[0])
    return (
        len(row) == one[0]
        and all(goal in points for goal in row)
        and all(same_or_lower(other, row[a], row[b]) for a, b in one[1])
    )


def all_rows(one, other):
    return itertools.product(range(other[0]), repeat=one[0])


def all_maps(one, other):
    return [row for row in all_rows(one, other) if plain_is_map(one, other, row)]


def plain_below(other, first, second):
    return all(same_or_lower(other, first[k], second[k]) for k in range(len(first)))


def plain_is_fence(one, other, rows):
    return (
        len(rows) > 0
        and all(plain_is_map(one, other, row) for row in rows)
        and all(plain_below(other, a, b) or plain_below(other, b, a) for a, b in zip(rows, rows[1:]))
    )


def crown(many):
    """2 * many points in a ring, by turns under and over their two neighbours; a core from many = 2 on."""
    return space_of(2 * many, [(a, many + (a + turn) % many) for a in range(many) for turn in (0, 1)])


def twos(many):
    """Twos of points, both of each under both of the next; a core from many = 1 on."""
    return space_of(2 * many, [(a, b) for a in range(2 * many) for b in range(2 * many) if b // 2 == a // 2 + 1])


def joined(one, other):
    """Both spaces, all points of the one under all of the other."""
    many = one[0]
    pairs = [(many + a, many + b) for a, b in other[1]] + [(a, many + b) for a in range(many) for b in range(other[0])]
    return space_of(many + other[0], list(one[1]) + pairs)


def put_beside(one, other):
    return space_of(one[0] + other[0], list(one[1]) + [(one[0] + a, one[0] + b) for a, b in other[1]])


def some_cores():
    """Cores of 1 to 16 points."""
    return (
        [apart(many) for many in range(1, 17)]
        + [crown(many) for many in range(2, 9)]
        + [twos(many) for many in range(2, 9)]
        + [put_beside(crown(many), twos(3)) for many in range(2, 6)]
        + [put_beside(crown(2), apart(5)), joined(crown(3), apart(3)), joined(apart(2), crown(4))]
        + [joined(crown(4), crown(4)), joined(crown(4), put_beside(crown(2), crown(2)))]
    )


def put_over(space, point):
    """One point more, just over a point: that one can't tell itself from it but by lying under it."""
    many = space[0]
    return space_of(many + 1, list(space[1]) + [(point, many)])


def put_under(space, point):
    many = space[0]
    return space_of(many + 1, list(space[1]) + [(many, point)])


def grown(space, seed, most=16):
    """The space with points put over and under points of it, until there are as many as told, under other names."""
    chance = random.Random(seed)
    while space[0] < most:
        put = chance.choice((put_over, put_under))
        space = put(space, chance.randrange(space[0]))
    return shuffled(space, seed)


def renamed(space, names):
    """The space in which the point a is called names[a]."""
    return (space[0], tuple(sorted((names[a], names[b]) for a, b in space[1])))


def shuffled(space, seed):
    names = list(range(space[0]))
    random.Random(seed).shuffle(names)
    return renamed(space, names)


def least_name(space):
    """The first of all spaces that are the same up to names; for few points only."""
    return min(renamed(space, names) for names in itertools.permutations(range(space[0])))


def is_renaming(one, other, names):
    return (
        one[0] == other[0]
        and sorted(names) == list(range(other[0]))
        and all(
            ((a, b) in set(one[1])) == ((names[a], names[b]) in set(other[1]))
            for a, b in itertools.product(range(one[0]), repeat=2)
        )
    )


def plain_has_renaming(one, other):
    """Each point in its turn is sent to each point that is still free, as long as the ties fit."""
    if one[0] != other[0]:
        return False
    ties, other_ties = set(one[1]), set(other[1])
    order = walked_order(one)

    def goes_on(names):
        if len(names) == one[0]:
            return True
        new = order[len(names)]
        return any(
            goes_on({**names, new: goal})
            for goal in range(other[0])
            if goal not in names.values()
            and all(
                ((a, new) in ties) == ((sent, goal) in other_ties)
                and ((new, a) in ties) == ((goal, sent) in other_ties)
                for a, sent in names.items()
            )
        )

    return goes_on({})


def walked_order(space):
    """All points, each of them beside one ahead of it if it can be: then what doesn't fit is seen early."""
    order = []
    for start in range(space[0]):
        waiting = [start]
        while waiting:
            point = waiting.pop()
            if point not in order:
                order.append(point)
                waiting += [a + b - point for a, b in space[1] if point in (a, b)]
    return order


def plain_goal(space, point, points=None):
    """By the words of point 6; with points, among these alone, the numbers being those of the whole space."""
    points = range(space[0]) if points is None else points
    ties = set(space[1])
    over = [a for a in points if (point, a) in ties]
    under = [a for a in points if (a, point) in ties]
    first = [a for a in over if all((a, b) in ties for b in over if b != a)]
    second = [a for a in under if all((b, a) in ties for b in under if b != a)]
    return (first + second + [None])[0]


def plain_left(space, row):
    points = list(range(space[0]))
    for number in row:
        points.pop(number)
    return points


def plain_along(space, row):
    points = plain_left(space, row)
    ties = [(points.index(a), points.index(b)) for a, b in space[1] if a in points and b in points]
    return (len(points), tuple(sorted(ties)))


def plain_sendings(space, row):
    """By the words of point 7: each point keeps its first number, and those left are looked at."""
    points = list(range(space[0]))
    told = [tuple(points)]
    for number in row:
        goal = plain_goal(space, points[number], points)
        told.append(tuple(goal if sent == points[number] else sent for sent in told[-1]))
        points.pop(number)
    return told


def can_be_done(space, row):
    points = list(range(space[0]))
    for number in row:
        if number not in range(len(points)) or plain_goal(space, points[number], points) is None:
            return False
        points.pop(number)
    return True


def is_core(space):
    return all(plain_goal(space, point) is None for point in range(space[0]))


def drawn_row(space, seed):
    """A row of folds to a core, each fold drawn among those that can be done."""
    chance = random.Random(seed)
    points = list(range(space[0]))
    row = []
    while True:
        can = [number for number, point in enumerate(points) if plain_goal(space, point, points) is not None]
        if not can:
            return row
        row.append(chance.choice(can))
        points.pop(row[-1])


def many_spaces():
    """Spaces of up to 16 points with cores of 1 to 16 points."""
    cores = some_cores()
    return some_spaces(16, 96) + cores + [grown(core, seed) for seed, core in enumerate(cores)]
