import itertools
import unittest

from fewpoints.errors import NoFold, NoPoint
from fewpoints.folds import along, foldable, folded, goal, left, sendings
from fewpoints.maps import is_fence
from fewpoints.spaces import even_count, pieces
from tests.helpers import (
    FAR,
    FARTHER,
    Refusing,
    apart,
    chain,
    crown,
    drawn_row,
    grown,
    is_core,
    many_spaces,
    plain_along,
    plain_goal,
    plain_is_fence,
    plain_left,
    plain_sendings,
    small_spaces,
    some_cores,
    space_of,
)

VEE = space_of(3, [(0, 1), (0, 2)])
SPACES = small_spaces(4) + many_spaces()


def strays(many):
    return (-1, -2, -many, -many - 1, many, many + 1, FAR, -FAR, FARTHER, -FARTHER)


class Goal(Refusing):
    def test_a_goal_over(self):
        self.assertEqual(goal(chain(2), 0), 1)
        self.assertEqual(goal(space_of(4, [(2, 1), (1, 0), (1, 3)]), 2), 1)
        self.assertEqual(goal(chain(16), 0), 1)

    def test_a_goal_under(self):
        self.assertEqual(goal(chain(2), 1), 0)
        self.assertEqual(goal(VEE, 1), 0)
        self.assertEqual(goal(VEE, 2), 0)
        self.assertEqual(goal(space_of(4, [(0, 1), (3, 1), (1, 2)]), 2), 1)
        self.assertEqual(goal(chain(16), 15), 14)

    def test_of_both_the_one_over_goes_first(self):
        for point in range(1, 15):
            self.assertEqual(goal(chain(16), point), point + 1)
        self.assertEqual(goal(space_of(3, [(2, 1), (1, 0)]), 1), 0)

    def test_a_goal_under_where_several_lie_over(self):
        self.assertEqual(goal(space_of(4, [(3, 0), (0, 1), (0, 2)]), 0), 3)

    def test_a_goal_over_where_several_lie_under(self):
        self.assertEqual(goal(space_of(4, [(1, 0), (2, 0), (0, 3)]), 0), 3)

    def test_none(self):
        self.assertIsNone(goal(apart(1), 0))
        self.assertIsNone(goal(VEE, 0))
        for space in some_cores():
            for point in range(space[0]):
                self.assertIsNone(goal(space, point))

    def test_a_lone_lowest_point_over_is_not_enough(self):
        # Over 0 lie 1 under 2, and 3 aside: nothing lies under all others over it.
        self.assertIsNone(goal(space_of(4, [(0, 1), (1, 2), (0, 3)]), 0))
        self.assertIsNone(goal(space_of(4, [(1, 0), (2, 1), (3, 0)]), 0))

    def test_by_the_words(self):
        kinds = set()
        for space in SPACES:
            for point in range(space[0]):
                told = goal(space, point)
                self.assertEqual(told, plain_goal(space, point), (space, point))
                kinds.add(None if told is None else (point, told) in space[1])
        self.assertEqual(kinds, {None, True, False})

    def test_no_point(self):
        for space in (apart(1), chain(2), VEE, crown(2), apart(16), chain(16)):
            for number in strays(space[0]):
                self.assert_refused(NoPoint, goal, space, number)


class Foldable(unittest.TestCase):
    def test_known(self):
        self.assertEqual(foldable(apart(1)), [])
        self.assertEqual(foldable(apart(16)), [])
        self.assertEqual(foldable(crown(8)), [])
        self.assertEqual(foldable(VEE), [1, 2])
        self.assertEqual(foldable(chain(16)), list(range(16)))

    def test_by_the_words(self):
        for space in SPACES:
            wanted = [point for point in range(space[0]) if plain_goal(space, point) is not None]
            self.assertEqual(foldable(space), wanted)

    def test_the_list_is_the_askers_own(self):
        first = foldable(VEE)
        first.append(7)
        self.assertEqual(foldable(VEE), [1, 2])
        empty = foldable(apart(2))
        empty.append(7)
        self.assertEqual(foldable(apart(2)), [])


class Folded(Refusing):
    def test_known(self):
        self.assertEqual(folded(chain(2), 0), (1, ()))
        self.assertEqual(folded(chain(2), 1), (1, ()))
        self.assertEqual(folded(VEE, 1), (2, ((0, 1),)))
        # The points on both sides of the fold still lie under one another.
        self.assertEqual(folded(chain(3), 1), (2, ((0, 1),)))
        self.assertEqual(folded(space_of(4, [(3, 1), (1, 0), (2, 0)]), 1), (3, ((1, 0), (2, 0))))

    def test_each_fold(self):
        for space in SPACES:
            for point in range(space[0]):
                if plain_goal(space, point) is not None:
                    self.assertEqual(folded(space, point), plain_along(space, [point]))

    def test_a_space_as_it_is_told(self):
        for seed, core in enumerate(some_cores()):
            space = grown(core, seed, 17 - seed % 2)
            for point in foldable(space):
                told = folded(space, point)
                self.assertEqual([type(told), type(told[1])], [tuple, tuple])
                self.assertEqual(list(told[1]), sorted(set(told[1])))

    def test_no_fold(self):
        for space in SPACES:
            for point in range(space[0]):
                if plain_goal(space, point) is None:
                    with self.assertRaises(NoFold):
                        folded(space, point)
        self.assert_refused(NoFold, folded, apart(1), 0)
        self.assert_refused(NoFold, folded, VEE, 0)
        self.assert_refused(NoFold, folded, crown(8), 15)

    def test_no_point(self):
        for space in (apart(1), chain(2), VEE, crown(2), apart(16), chain(16)):
            for number in strays(space[0]):
                self.assert_refused(NoPoint, folded, space, number)


ROW_CALLS = (along, left, sendings)


class Rows(Refusing):
    def assert_walked(self, space, row):
        before = list(row)
        told = sendings(space, row)
        self.assertEqual(along(space, row), plain_along(space, row))
        self.assertEqual(left(space, row), plain_left(space, row))
        self.assertEqual(told, plain_sendings(space, row))
        self.assertEqual(len(told), len(row) + 1)
        self.assertEqual({type(sending) for sending in told}, {tuple})
        self.assertTrue(plain_is_fence(space, space, told))
        self.assertIs(is_fence(space, space, told), True)
        self.assertEqual(row, before)

    def test_the_empty_row(self):
        for space in SPACES:
            self.assertEqual(along(space, []), space)
            self.assertEqual(left(space, []), list(range(space[0])))
            self.assertEqual(sendings(space, []), [tuple(range(space[0]))])

    def test_one_fold(self):
        self.assertEqual(along(VEE, [2]), (2, ((0, 1),)))
        self.assertEqual(left(VEE, [1]), [0, 2])
        self.assertEqual(sendings(VEE, [1]), [(0, 1, 2), (0, 0, 2)])
        self.assertEqual(sendings(chain(3), [1]), [(0, 1, 2), (0, 2, 2)])
        for space in SPACES:
            for point in foldable(space):
                self.assert_walked(space, [point])

    def test_each_number_as_it_is_then(self):
        self.assertEqual(along(chain(4), [0, 0, 0]), (1, ()))
        self.assertEqual(left(chain(4), [0, 0, 0]), [3])
        self.assertEqual(sendings(chain(4), [0, 0, 0]), [(0, 1, 2, 3), (1, 1, 2, 3), (2, 2, 2, 3), (3, 3, 3, 3)])
        self.assertEqual(left(chain(4), [1, 1]), [0, 3])
        self.assertEqual(sendings(chain(4), [1, 1]), [(0, 1, 2, 3), (0, 2, 2, 3), (0, 3, 3, 3)])
        self.assertEqual(sendings(VEE, [1, 1]), [(0, 1, 2), (0, 0, 2), (0, 0, 0)])
        # 2 goes onto 3, what is then called 2 onto what is then called 1.
        self.assertEqual(sendings(chain(4), [2, 2]), [(0, 1, 2, 3), (0, 1, 3, 3), (0, 1, 1, 1)])

    def test_fifteen_folds(self):
        for row in ([0] * 15, list(range(15, 0, -1)), [1] * 14 + [0]):
            self.assert_walked(chain(16), row)

    def test_many_folds_down_to_a_core(self):
        for seed, space in enumerate(SPACES):
            for turn in range(3):
                row = drawn_row(space, 3 * seed + turn)
                self.assert_walked(space, row)
                self.assertTrue(is_core(along(space, row)))

    def test_each_row_of_folds_of_small_spaces(self):
        def walk(space, row):
            self.assert_walked(space, row)
            for point in foldable(along(space, row)):
                walk(space, row + [point])

        for space in small_spaces(3) + small_spaces(4)[::5]:
            walk(space, [])

    def test_pieces_and_even_count_stay(self):
        for seed, space in enumerate(SPACES):
            row = drawn_row(space, seed)
            for length in range(len(row) + 1):
                behind = along(space, row[:length])
                self.assertEqual(len(pieces(behind)), len(pieces(space)))
                self.assertEqual(even_count(behind), even_count(space))

    def test_no_point_then(self):
        for seed, space in enumerate((apart(1), chain(2), VEE, chain(16), grown(crown(3), 1), apart(16))):
            row = drawn_row(space, seed)
            for place in range(len(row) + 1):
                for number in strays(space[0] - place):
                    for call in ROW_CALLS:
                        self.assert_refused(NoPoint, call, space, row[:place] + [number] + row[place:])

    def test_no_fold_then(self):
        refused = 0
        for seed, space in enumerate(SPACES[::3]):
            row = drawn_row(space, seed)
            for place in range(len(row) + 1):
                points = plain_left(space, row[:place])
                cannot = [
                    number for number, point in enumerate(points) if plain_goal(space, point, points) is None
                ]
                for number, call in itertools.product(cannot[-2:], ROW_CALLS):
                    self.assert_refused(NoFold, call, space, row[:place] + [number] + row[place:])
                    refused += 1
        self.assertGreater(refused, 500)

    def test_a_point_that_was_there_at_first(self):
        for call in ROW_CALLS:
            self.assert_refused(NoPoint, call, chain(3), [0, 2])
            self.assert_refused(NoPoint, call, chain(2), [1, 1])
            self.assert_refused(NoFold, call, chain(2), [1, 0])

    def test_the_first_fold_that_is_refused(self):
        for call, number in itertools.product(ROW_CALLS, (-1, 3, FAR)):
            self.assert_refused(NoFold, call, VEE, [0, number])
            self.assert_refused(NoPoint, call, VEE, [number, 0])
            self.assert_refused(NoFold, call, VEE, [1, 1, 0, number])
            self.assert_refused(NoPoint, call, VEE, [1, 1, number, 0])

    def test_the_lists_are_the_askers_own(self):
        row = [1]
        names, told = left(VEE, row), sendings(VEE, row)
        row.append(9)
        names.append(9)
        told.append(9)
        self.assertEqual(left(VEE, [1]), [0, 2])
        self.assertEqual(sendings(VEE, [1]), [(0, 1, 2), (0, 0, 2)])
        self.assertEqual((names, told), ([0, 2, 9], [(0, 1, 2), (0, 0, 2), 9]))
        self.assertEqual(row, [1, 9])


if __name__ == "__main__":
    unittest.main()
