import itertools
import unittest

from fewpoints.maps import below, is_fence, is_map, many_maps
from tests.helpers import (
    FAR,
    all_maps,
    all_rows,
    all_spaces,
    apart,
    chain,
    plain_below,
    plain_is_map,
    small_spaces,
    some_spaces,
    space_of,
)

VEE = space_of(3, [(0, 1), (0, 2)])
CROWN = space_of(4, [(0, 2), (0, 3), (1, 2), (1, 3)])


class IsMap(unittest.TestCase):
    def test_maps(self):
        self.assertIs(is_map(chain(3), chain(2), (0, 0, 1)), True)
        self.assertIs(is_map(chain(3), chain(2), (1, 1, 1)), True)
        self.assertIs(is_map(VEE, CROWN, (1, 2, 3)), True)
        self.assertIs(is_map(apart(3), chain(3), (2, 0, 1)), True)
        self.assertIs(is_map(chain(16), chain(16), tuple(range(16))), True)

    def test_one_entry_turned(self):
        self.assertIs(is_map(chain(3), chain(2), (1, 0, 1)), False)
        self.assertIs(is_map(VEE, CROWN, (1, 2, 0)), False)
        self.assertIs(is_map(VEE, apart(2), (0, 0, 1)), False)
        for point in range(1, 16):
            row = list(range(16))
            row[point] = point - 2 if point > 1 else 15
            self.assertIs(is_map(chain(16), chain(16), tuple(row)), False)

    def test_the_order_may_not_be_turned_round(self):
        self.assertIs(is_map(chain(2), chain(2), (0, 1)), True)
        self.assertIs(is_map(chain(2), chain(2), (1, 0)), False)

    def test_rows_of_a_wrong_length(self):
        for one in (apart(1), apart(3), chain(3), VEE):
            for length in range(6):
                self.assertIs(is_map(one, chain(2), (0,) * length), length == one[0])
        self.assertIs(is_map(apart(1), apart(1), ()), False)

    def test_entries_that_are_no_points(self):
        for other in (apart(1), chain(2), CROWN):
            for number in (-1, -other[0], other[0], other[0] + 1, FAR, -FAR):
                for row in ((number, 0), (0, number), (number, number)):
                    self.assertIs(is_map(apart(2), other, row), False)
                    self.assertIs(is_map(chain(2), other, row), False)
                self.assertIs(is_map(apart(1), other, (number,)), False)

    def test_all_rows_between_small_spaces(self):
        for one, other in itertools.product(small_spaces(3), repeat=2):
            for length in range(one[0] + 2):
                for row in itertools.product(range(-1, other[0] + 1), repeat=length):
                    self.assertIs(is_map(one, other, row), plain_is_map(one, other, row))


class Below(unittest.TestCase):
    def test_the_same(self):
        for row in all_maps(VEE, CROWN):
            self.assertIs(below(CROWN, row, row), True)

    def test_either_way(self):
        self.assertIs(below(chain(3), (0, 1), (0, 2)), True)
        self.assertIs(below(chain(3), (0, 2), (0, 1)), False)

    def test_neither_way(self):
        self.assertIs(below(chain(3), (0, 2), (1, 1)), False)
        self.assertIs(below(chain(3), (1, 1), (0, 2)), False)
        self.assertIs(below(apart(2), (0,), (1,)), False)
        self.assertIs(below(CROWN, (0, 2), (1, 2)), False)

    def test_all_maps_between_small_spaces(self):
        for one, other in itertools.product(small_spaces(3), repeat=2):
            for first, second in itertools.product(all_maps(one, other), repeat=2):
                self.assertIs(below(other, first, second), plain_below(other, first, second))

    def test_maps_from_spaces_with_other_numbers_of_points(self):
        self.assertIs(below(chain(2), (0, 0), (0,)), False)
        self.assertIs(below(chain(2), (0,), (0, 0)), False)


class IsFence(unittest.TestCase):
    def test_one_map(self):
        self.assertIs(is_fence(VEE, CROWN, [(1, 2, 3)]), True)

    def test_one_row_that_is_no_map(self):
        for row in ((2, 1, 3), (0, 0), (0, 0, 0, 0), (), (4, 4, 4), (-1, -1, -1)):
            self.assertIs(is_fence(VEE, CROWN, [row]), False)

    def test_no_row(self):
        self.assertIs(is_fence(VEE, CROWN, []), False)
        self.assertIs(is_fence(apart(1), apart(1), []), False)

    def test_several_maps(self):
        up_and_down = [(0,), (2,), (1,), (3,), (3,), (0,)]
        self.assertIs(is_fence(apart(1), CROWN, up_and_down), True)
        self.assertIs(is_fence(apart(1), CROWN, up_and_down[::-1]), True)
        self.assertIs(is_fence(apart(1), chain(3), [(2,), (1,), (0,)]), True)
        self.assertIs(is_fence(apart(1), chain(3), [(0,), (1,), (2,)]), True)

    def test_neighbours_that_lie_neither_way(self):
        rows = [(0,), (2,), (1,), (3,)]
        for place in range(1, 4):
            # The map ahead once more is fine; the one beside it in the crown is not.
            aside = (rows[place - 1][0] ^ 1,)
            self.assertIs(is_fence(apart(1), CROWN, rows[:place] + [aside]), False)
            self.assertIs(is_fence(apart(1), CROWN, [aside] + rows[place - 1 :]), False)
        self.assertIs(is_fence(apart(2), chain(2), [(0, 1), (1, 0)]), False)
        self.assertIs(is_fence(apart(2), chain(2), [(0, 1), (0, 0), (1, 0)]), True)

    def test_one_row_that_is_no_map_among_maps(self):
        rows = [(0, 0), (0, 1), (1, 1), (0, 1)]
        self.assertIs(is_fence(chain(2), chain(2), rows), True)
        for place in range(len(rows) + 1):
            for stray in ((1, 0), (0,), (0, 1, 1), (), (0, 2), (-1, 0), (FAR, FAR)):
                self.assertIs(is_fence(chain(2), chain(2), rows[:place] + [stray] + rows[place:]), False)

    def test_a_row_that_lies_right_but_is_no_map(self):
        self.assertIs(is_fence(chain(2), chain(3), [(0, 0), (1, 0), (1, 1)]), False)

    def test_all_lists_of_three_rows(self):
        for one, other in itertools.product(small_spaces(2), small_spaces(2) + [CROWN]):
            for rows in itertools.product(all_rows(one, other), repeat=3):
                wanted = all(plain_is_map(one, other, row) for row in rows) and all(
                    plain_below(other, a, b) or plain_below(other, b, a) for a, b in zip(rows, rows[1:])
                )
                self.assertIs(is_fence(one, other, list(rows)), wanted)

    def test_the_list_stays_as_it_was(self):
        for rows in ([], [(0,)], [(0,), (2,), (1,)], [(2,), (3,)], [(0,), (4,)]):
            before = list(rows)
            is_fence(apart(1), CROWN, rows)
            self.assertEqual(rows, before)


class ManyMaps(unittest.TestCase):
    def assert_counted(self, one, other):
        self.assertEqual(many_maps(one, other), len(all_maps(one, other)), (one, other))

    def test_known_counts(self):
        self.assertEqual(many_maps(chain(2), chain(2)), 3)
        self.assertEqual(many_maps(apart(4), apart(4)), 256)
        self.assertEqual(many_maps(chain(8), chain(2)), 9)
        self.assertEqual(many_maps(apart(8), chain(2)), 256)
        self.assertEqual(many_maps(chain(8), apart(2)), 2)

    def test_every_two_spaces_of_up_to_three_points(self):
        for one, other in itertools.product(small_spaces(3), repeat=2):
            self.assert_counted(one, other)

    def test_spaces_of_four_points(self):
        some = all_spaces(4)[::17]
        for one, other in itertools.product(some, repeat=2):
            self.assert_counted(one, other)
        for one, other in itertools.product(all_spaces(4)[::5], small_spaces(3)):
            self.assert_counted(one, other)
            self.assert_counted(other, one)

    def test_up_to_eight_points_to_two(self):
        for one in some_spaces(8, 64):
            self.assert_counted(one, chain(2))
            self.assert_counted(one, apart(2))

    def test_two_points_to_sixteen(self):
        for other in some_spaces(16, 48):
            self.assert_counted(chain(2), other)
            self.assert_counted(apart(2), other)

    def test_to_one_point(self):
        for one in some_spaces(16, 48):
            self.assertEqual(many_maps(one, apart(1)), 1)

    def test_from_one_point(self):
        for other in some_spaces(16, 48):
            self.assertEqual(many_maps(apart(1), other), other[0])

    def test_somewhat_beyond_the_bound(self):
        for one in some_spaces(5, 20):
            self.assert_counted(one, space_of(5, [(0, 2), (1, 2), (2, 3), (2, 4)]))


if __name__ == "__main__":
    unittest.main()
