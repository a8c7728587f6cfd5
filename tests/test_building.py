import itertools
import unittest

from fewpoints.building import beside, times, topped, turned
from fewpoints.cores import renaming, row_to_core
from fewpoints.errors import TooMany
from fewpoints.folds import along
from fewpoints.spaces import even_count, pieces
from tests.helpers import (
    Refusing,
    apart,
    chain,
    crown,
    grown,
    is_core,
    is_renaming,
    many_spaces,
    same_or_lower,
    small_spaces,
    some_cores,
    some_spaces,
    space_of,
    twos,
)

VEE = space_of(3, [(0, 1), (0, 2)])
SMALL = small_spaces(3) + small_spaces(4)[30::23] + [crown(2)]


def sixteen_beside():
    """Two spaces each with 16 points in all."""
    for seed in range(15):
        yield grown(apart(1), seed, seed + 1), grown(apart(1), seed + 20, 15 - seed)


def sixteen_times():
    for wide in (1, 2, 4, 8, 16):
        yield grown(apart(1), wide, wide), grown(apart(1), wide + 20, 16 // wide)
    yield crown(2), crown(2)
    yield apart(2), crown(4)


def plain_beside(one, other):
    points = [("one", a) for a in range(one[0])] + [("other", a) for a in range(other[0])]
    ties = {"one": one[1], "other": other[1]}
    return of_points(points, lambda a, b: a[0] == b[0] and (a[1], b[1]) in ties[a[0]])


def plain_times(one, other):
    points = list(itertools.product(range(one[0]), range(other[0])))
    return of_points(
        points, lambda a, b: a != b and same_or_lower(one, a[0], b[0]) and same_or_lower(other, a[1], b[1])
    )


def plain_turned(space):
    return of_points(list(range(space[0])), lambda a, b: (b, a) in space[1])


def plain_topped(space):
    many = space[0]
    return of_points(list(range(many + 1)), lambda a, b: (a, b) in space[1] or (a < many and b == many))


def of_points(points, is_under):
    """The space of the points, numbered as they stand, pair by pair."""
    numbers = itertools.product(range(len(points)), repeat=2)
    return (len(points), tuple((a, b) for a, b in numbers if is_under(points[a], points[b])))


def core_of(space):
    return along(space, row_to_core(space))


class Building(Refusing):
    def assert_same_up_to_names(self, one, other):
        told = renaming(one, other)
        self.assertIsNotNone(told, (one, other))
        self.assertTrue(is_renaming(one, other, told))


class Beside(Building):
    def test_known(self):
        self.assertEqual(beside(chain(2), VEE), (5, ((0, 1), (2, 3), (2, 4))))
        self.assertEqual(beside(VEE, chain(2)), (5, ((0, 1), (0, 2), (3, 4))))
        self.assertEqual(beside(apart(1), apart(1)), (2, ()))

    def test_pair_by_pair(self):
        for one, other in list(itertools.product(SMALL, repeat=2)) + list(sixteen_beside()):
            self.assertEqual(beside(one, other), plain_beside(one, other))

    def test_counts(self):
        for one, other in itertools.product(some_spaces(8, 24), repeat=2):
            both = beside(one, other)
            self.assertEqual(len(pieces(both)), len(pieces(one)) + len(pieces(other)))
            self.assertEqual(even_count(both), even_count(one) + even_count(other))

    def test_sixteen_points_and_more(self):
        for one, other in itertools.product(range(1, 17), repeat=2):
            for first, second in ((apart(one), chain(other)), (chain(one), apart(other))):
                if one + other <= 16:
                    self.assertEqual(beside(first, second)[0], one + other)
                else:
                    self.assert_refused(TooMany, beside, first, second)

    def test_cores(self):
        for one, other in itertools.product(SMALL, repeat=2):
            self.assert_same_up_to_names(core_of(beside(one, other)), beside(core_of(one), core_of(other)))
        for one, other in itertools.product([crown(2), crown(4), twos(3), apart(3)], repeat=2):
            both = beside(grown(one, 1, 8), grown(other, 2, 8))
            self.assert_same_up_to_names(core_of(both), beside(one, other))


class Times(Building):
    def test_known(self):
        self.assertEqual(times(chain(2), chain(2)), (4, ((0, 1), (0, 2), (0, 3), (1, 3), (2, 3))))
        self.assertEqual(times(chain(2), apart(3)), (6, ((0, 3), (1, 4), (2, 5))))
        self.assertEqual(times(apart(3), chain(2)), (6, ((0, 1), (2, 3), (4, 5))))
        self.assertEqual(times(apart(1), VEE), VEE)
        self.assertEqual(times(VEE, apart(1)), VEE)

    def test_pair_by_pair(self):
        for one, other in list(itertools.product(SMALL, repeat=2)) + list(sixteen_times()):
            self.assertEqual(times(one, other), plain_times(one, other))

    def test_counts(self):
        for one, other in list(itertools.product(SMALL, repeat=2)) + list(sixteen_times()):
            both = times(one, other)
            self.assertEqual(len(pieces(both)), len(pieces(one)) * len(pieces(other)))
            self.assertEqual(even_count(both), even_count(one) * even_count(other))

    def test_sixteen_points_and_more(self):
        for one, other in itertools.product(range(1, 17), repeat=2):
            for first, second in ((apart(one), chain(other)), (chain(one), apart(other))):
                if one * other <= 16:
                    self.assertEqual(times(first, second)[0], one * other)
                else:
                    self.assert_refused(TooMany, times, first, second)

    def test_cores(self):
        for one, other in itertools.product(SMALL, repeat=2):
            self.assert_same_up_to_names(core_of(times(one, other)), times(core_of(one), core_of(other)))
        for one, other in sixteen_times():
            self.assert_same_up_to_names(core_of(times(one, other)), times(core_of(one), core_of(other)))
        self.assertTrue(is_core(times(crown(2), crown(2))))


class Turned(Building):
    def test_known(self):
        self.assertEqual(turned(VEE), (3, ((1, 0), (2, 0))))
        self.assertEqual(turned(apart(16)), apart(16))

    def test_pair_by_pair(self):
        for space in SMALL + many_spaces():
            self.assertEqual(turned(space), plain_turned(space))
            self.assertEqual(turned(turned(space)), space)

    def test_counts(self):
        for space in SMALL + many_spaces():
            self.assertEqual(pieces(turned(space)), pieces(space))
            self.assertEqual(even_count(turned(space)), even_count(space))

    def test_cores(self):
        for core in some_cores():
            self.assertTrue(is_core(turned(core)))
        for space in SMALL + many_spaces():
            self.assert_same_up_to_names(core_of(turned(space)), turned(core_of(space)))


class Topped(Building):
    def test_known(self):
        self.assertEqual(topped(apart(1)), chain(2))
        self.assertEqual(topped(space_of(2, [(1, 0)])), (3, ((0, 2), (1, 0), (1, 2))))
        self.assertEqual(topped(chain(15)), chain(16))

    def test_pair_by_pair(self):
        for space in SMALL + many_spaces():
            if space[0] < 16:
                self.assertEqual(topped(space), plain_topped(space))

    def test_sixteen_points_topped(self):
        for space in (apart(16), chain(16), crown(8), twos(8)):
            self.assert_refused(TooMany, topped, space)

    def test_the_core_has_one_point(self):
        for space in SMALL + many_spaces():
            if space[0] < 16:
                self.assertEqual(core_of(topped(space)), (1, ()))
                self.assertEqual(len(pieces(topped(space))), 1)
                self.assertEqual(even_count(topped(space)), 1)


class Kinds(unittest.TestCase):
    def test_tuples_in_the_order_of_tuples(self):
        told = [turned(space) for space in many_spaces()]
        told += [topped(space) for space in many_spaces() if space[0] < 16]
        told += [beside(one, other) for one, other in sixteen_beside()]
        told += [times(one, other) for one, other in sixteen_times()]
        for space in told:
            self.assertEqual([type(space), type(space[0]), type(space[1])], [tuple, int, tuple])
            self.assertEqual([type(tie) for tie in space[1]], [tuple] * len(space[1]))
            self.assertEqual(list(space[1]), sorted(set(space[1])))


if __name__ == "__main__":
    unittest.main()
