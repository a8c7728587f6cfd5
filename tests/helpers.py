"""What several tests need: spaces to ask, and plain second ways to the same answers."""

import itertools
import random


def reachable(many, pairs):
    """All (a, b) such that one or more pairs lead from a to b; found by walking on from each point."""
    steps = {a: {d for c, d in pairs if c == a and c != d} for a in range(many)}
    found = set()
    for a in range(many):
        waiting = list(steps[a])
        while waiting:
            b = waiting.pop()
            if (a, b) not in found:
                found.add((a, b))
                waiting.extend(steps[b])
    return found


def goes_round(many, pairs):
    return any(a == b for a, b in reachable(many, pairs))


def space_of(many, pairs):
    return (many, tuple(sorted(reachable(many, pairs))))


def pair_lists(many):
    """Every set of pairs of two different points, as a list."""
    pairs = list(itertools.permutations(range(many), 2))
    for size in range(len(pairs) + 1):
        for chosen in itertools.combinations(pairs, size):
            yield list(chosen)


def all_spaces(many):
    return sorted({space_of(many, pairs) for pairs in pair_lists(many) if not goes_round(many, pairs)})


def small_spaces(most):
    return [space for many in range(1, most + 1) for space in all_spaces(many)]


def some_pairs(seed, many, how_many):
    """Pairs that make a space, in any order, some twice, some of a point and itself; the same for one seed."""
    chance = random.Random(seed)
    ranks = list(range(many))
    chance.shuffle(ranks)
    pairs = []
    for _ in range(how_many):
        a, b = chance.randrange(many), chance.randrange(many)
        pairs.append((a, b) if ranks[a] <= ranks[b] else (b, a))
    return pairs + pairs[: how_many // 4]


def some_spaces(most, how_many):
    """Spaces of 1 to most points, with few and with many ties."""
    spaces = []
    for seed in range(how_many):
        many = 1 + seed % most
        spaces.append(space_of(many, some_pairs(seed, many, seed % (2 * many))))
    return spaces


def chain(many):
    return space_of(many, [(a, a + 1) for a in range(many - 1)])


def apart(many):
    return (many, ())


def same_or_lower(space, a, b):
    return a == b or (a, b) in set(space[1])


def plain_is_map(one, other, row):
    points = range(other[0])
    return (
        len(row) == one[0]
        and all(goal in points for goal in row)
        and all(same_or_lower(other, row[a], row[b]) for a, b in one[1])
    )


def all_rows(one, other):
    return itertools.product(range(other[0]), repeat=one[0])


def all_maps(one, other):
    return [row for row in all_rows(one, other) if plain_is_map(one, other, row)]


def plain_below(other, first, second):
    return all(same_or_lower(other, first[k], second[k]) for k in range(len(first)))
