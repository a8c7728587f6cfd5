import itertools
import unittest

from fewpoints.cores import judged, renaming, row_to_core
from fewpoints.folds import along
from tests.helpers import (
    all_maps,
    apart,
    can_be_done,
    chain,
    crown,
    drawn_row,
    grown,
    is_core,
    is_renaming,
    joined,
    least_name,
    many_spaces,
    plain_along,
    plain_below,
    plain_has_renaming,
    plain_is_fence,
    plain_is_map,
    put_beside,
    put_over,
    put_under,
    renamed,
    shuffled,
    small_spaces,
    some_cores,
    some_spaces,
    space_of,
    twos,
)

# The same numbers of points and ties, and each point with as many under and over it; but lying otherwise.
RINGS = [
    (crown(4), put_beside(crown(2), crown(2))),
    (crown(5), put_beside(crown(2), crown(3))),
    (crown(8), put_beside(crown(4), crown(4))),
    (crown(8), put_beside(crown(3), crown(5))),
    (put_beside(crown(4), crown(4)), put_beside(crown(2), crown(6))),
    (
        put_beside(crown(4), put_beside(crown(2), crown(2))),
        put_beside(put_beside(crown(2), crown(2)), put_beside(crown(2), crown(2))),
    ),
]


class RowToCore(unittest.TestCase):
    def test_each_fold_can_be_done_and_leads_to_a_core(self):
        for space in small_spaces(4) + many_spaces():
            row = row_to_core(space)
            self.assertIs(type(row), list)
            self.assertTrue(can_be_done(space, row), (space, row))
            self.assertTrue(is_core(plain_along(space, row)), (space, row))

    def test_a_core_has_an_empty_row(self):
        for core in some_cores():
            self.assertEqual(row_to_core(core), [])

    def test_to_one_point(self):
        for many in range(1, 17):
            self.assertEqual(len(row_to_core(chain(many))), many - 1)

    def test_the_core_within(self):
        for seed, core in enumerate(some_cores()):
            space = grown(core, seed)
            self.assertEqual(len(row_to_core(space)), 16 - core[0])

    def test_the_list_is_the_askers_own(self):
        for space in (chain(4), apart(4)):
            row = row_to_core(space)
            before = list(row)
            row.append(3)
            self.assertEqual(row_to_core(space), before)

    def test_any_two_cores_are_the_same_up_to_names(self):
        for seed, space in enumerate(small_spaces(4)[::3] + many_spaces()):
            rows = [row_to_core(space)] + [drawn_row(space, 7 * seed + turn) for turn in range(3)]
            cores = [along(space, row) for row in rows]
            for one, other in itertools.product(cores, repeat=2):
                self.assertTrue(is_renaming(one, other, renaming(one, other)))


class Renaming(unittest.TestCase):
    def assert_renaming(self, one, other):
        told = renaming(one, other)
        self.assertIs(type(told), tuple)
        self.assertTrue(is_renaming(one, other, told), (one, other, told))

    def test_a_space_to_itself(self):
        for space in small_spaces(4) + many_spaces():
            self.assert_renaming(space, space)

    def test_other_names(self):
        for seed, space in enumerate(small_spaces(4) + many_spaces()):
            self.assert_renaming(space, shuffled(space, seed))
            self.assert_renaming(shuffled(space, seed + 1), shuffled(space, seed))

    def test_the_way_it_goes(self):
        self.assertEqual(renaming(chain(3), space_of(3, [(2, 0), (0, 1)])), (2, 0, 1))
        self.assertEqual(renaming(space_of(3, [(2, 0), (0, 1)]), chain(3)), (1, 2, 0))
        self.assertEqual(renaming(apart(1), apart(1)), (0,))

    def test_other_numbers_of_points(self):
        for one, other in itertools.permutations(range(1, 17), 2):
            self.assertIsNone(renaming(apart(one), apart(other)))
            self.assertIsNone(renaming(chain(one), chain(other)))
        self.assertIsNone(renaming(put_beside(chain(3), apart(1)), chain(3)))

    def test_other_numbers_of_ties(self):
        for seed, space in enumerate(many_spaces()):
            for tie in space[1]:
                # A tie with a point between is told by the others too: taken out, it comes again.
                other = space_of(space[0], [kept for kept in space[1] if kept != tie])
                if other != space:
                    self.assertIsNone(renaming(space, shuffled(other, seed)))
                    self.assertIsNone(renaming(other, shuffled(space, seed)))
                    break

    def test_the_same_numbers_of_both(self):
        vee, wedge = space_of(3, [(0, 1), (0, 2)]), space_of(3, [(1, 0), (2, 0)])
        self.assertIsNone(renaming(vee, wedge))
        self.assertIsNone(renaming(space_of(4, [(0, 1), (2, 3)]), space_of(4, [(0, 1), (0, 2)])))
        self.assertIsNone(renaming(space_of(6, [(0, 1), (0, 2), (4, 3), (5, 3)]), put_beside(vee, vee)))
        for seed, (one, other) in enumerate(RINGS):
            self.assertEqual((one[0], len(one[1])), (other[0], len(other[1])))
            self.assertIsNone(renaming(one, shuffled(other, seed)))
            self.assertIsNone(renaming(shuffled(other, seed), one))

    def test_much_that_can_be_exchanged_beside_what_lies_otherwise(self):
        one, other = RINGS[0]
        pairs = space_of(8, [(a, a + 1) for a in range(0, 8, 2)])
        thirds = space_of(8, [(a, 4 + b) for a in range(4) for b in range(4) if a != b])
        for more in (apart(8), pairs, thirds, one, other, chain(8)):
            for put in (joined, put_beside):
                for seed in range(3):
                    for first, second in ((put(more, one), put(more, other)), (put(one, more), put(other, more))):
                        self.assertIsNone(renaming(first, shuffled(second, seed)))
                        self.assertIsNone(renaming(shuffled(second, seed), first))
                        self.assert_renaming(first, shuffled(first, seed))
                        self.assert_renaming(second, shuffled(second, seed))

    def test_every_two_spaces_of_up_to_three_points(self):
        for one, other in itertools.product(small_spaces(3), repeat=2):
            told = renaming(one, other)
            if one[0] == other[0] and least_name(one) == least_name(other):
                self.assertTrue(is_renaming(one, other, told))
            else:
                self.assertIsNone(told)

    def test_spaces_of_four_points(self):
        spaces = [space for space in small_spaces(4)[::2] if space[0] == 4]
        names = {space: least_name(space) for space in spaces}
        for one, other in itertools.product(spaces, repeat=2):
            told = renaming(one, other)
            self.assertEqual(told is not None, names[one] == names[other], (one, other))
            if told is not None:
                self.assertTrue(is_renaming(one, other, told))

    def test_spaces_of_six_points(self):
        spaces = [space for space in some_spaces(6, 240) if space[0] == 6]
        names = {space: least_name(space) for space in spaces}
        for one, other in itertools.product(names, repeat=2):
            self.assertEqual(renaming(one, other) is not None, names[one] == names[other], (one, other))


def classes_of_maps(one, other):
    """For each map a number, the same for two where a fence leads from the one to the other."""
    numbers = {}
    maps = all_maps(one, other)
    for start in maps:
        if start not in numbers:
            numbers[start] = len(numbers)
            waiting = [start]
            while waiting:
                here = waiting.pop()
                for row in maps:
                    if row not in numbers and (plain_below(other, here, row) or plain_below(other, row, here)):
                        numbers[row] = numbers[start]
                        waiting.append(row)
    return numbers


def after(first, second):
    return tuple(second[point] for point in first)


def same(space):
    return tuple(range(space[0]))


def plain_alike(one, other):
    """By the words of point 10 alone: all maps forth and back are gone through."""
    round_one, round_other = classes_of_maps(one, one), classes_of_maps(other, other)
    return any(
        round_one[after(forth, back)] == round_one[same(one)]
        and round_other[after(back, forth)] == round_other[same(other)]
        for forth in all_maps(one, other)
        for back in all_maps(other, one)
    )


class Judged(unittest.TestCase):
    def assert_alike(self, one, other):
        told = judged(one, other)
        self.assertIs(type(told), tuple)
        self.assertEqual((told[0], len(told)), ("alike", 5), (one, other))
        forth, back, fence, other_fence = told[1:]
        self.assertEqual([type(part) for part in told], [str, tuple, tuple, list, list])
        self.assertTrue(plain_is_map(one, other, forth))
        self.assertTrue(plain_is_map(other, one, back))
        self.assert_fence(one, fence, after(forth, back))
        self.assert_fence(other, other_fence, after(back, forth))
        self.assertIsNot(fence, other_fence)

    def assert_fence(self, space, fence, first):
        self.assertTrue(plain_is_fence(space, space, fence))
        self.assertEqual({type(row) for row in fence}, {tuple})
        self.assertEqual(fence[0], first)
        self.assertEqual(fence[-1], same(space))

    def assert_unlike(self, one, other):
        told = judged(one, other)
        self.assertIs(type(told), tuple)
        self.assertEqual((told[0], len(told)), ("unlike", 3), (one, other))
        self.assertEqual([type(part) for part in told], [str, list, list])
        for space, row in ((one, told[1]), (other, told[2])):
            self.assertTrue(can_be_done(space, row))
            self.assertTrue(is_core(plain_along(space, row)))
        self.assertFalse(plain_has_renaming(plain_along(one, told[1]), plain_along(other, told[2])))
        self.assertIsNot(told[1], told[2])

    def assert_alike_both_ways(self, one, other):
        self.assert_alike(one, other)
        self.assert_alike(other, one)

    def assert_unlike_both_ways(self, one, other):
        self.assert_unlike(one, other)
        self.assert_unlike(other, one)

    def test_a_space_and_itself(self):
        for space in small_spaces(3) + many_spaces():
            self.assert_alike(space, space)

    def test_under_other_names(self):
        for seed, space in enumerate(small_spaces(4)[::3] + many_spaces()):
            self.assert_alike_both_ways(space, shuffled(space, seed))

    def test_with_points_folded_away(self):
        for seed, space in enumerate(many_spaces()):
            row = drawn_row(space, seed)
            for length in (1, len(row) // 2, len(row)):
                if length <= len(row):
                    self.assert_alike_both_ways(space, shuffled(plain_along(space, row[:length]), seed))

    def test_with_a_point_put_over_or_under_one(self):
        for seed, space in enumerate(small_spaces(3) + many_spaces()):
            if space[0] < 16:
                point = seed % space[0]
                self.assert_alike_both_ways(space, put_over(space, point))
                self.assert_alike_both_ways(space, shuffled(put_under(space, point), seed))
                self.assert_alike_both_ways(put_over(space, point), put_under(space, point))

    def test_with_many_points_more_on_both_sides(self):
        for seed, core in enumerate(some_cores()):
            self.assert_alike_both_ways(grown(core, seed), grown(core, seed + 100, (core[0] + 16) // 2))

    def test_one_point(self):
        for many in range(1, 17):
            self.assert_alike_both_ways(apart(1), chain(many))

    def test_unlike_numbers_of_points(self):
        for one, other in itertools.combinations(range(1, 17, 3), 2):
            self.assert_unlike_both_ways(apart(one), apart(other))
            self.assert_unlike_both_ways(grown(apart(one), one), apart(other))

    def test_unlike_cores(self):
        for one, other in itertools.combinations([crown(2), crown(3), twos(3), twos(4), apart(4)], 2):
            self.assert_unlike_both_ways(one, other)
            self.assert_unlike_both_ways(grown(one, 1, 12), grown(other, 2, 13))

    def test_unlike_rings(self):
        for seed, (one, other) in enumerate(RINGS):
            self.assert_unlike_both_ways(one, shuffled(other, seed))
            self.assert_unlike_both_ways(grown(one, seed), grown(other, seed))

    def test_with_as_many_pieces_and_the_same_even_count(self):
        self.assert_unlike_both_ways(crown(2), crown(3))
        self.assert_unlike_both_ways(twos(3), twos(5))
        self.assert_unlike_both_ways(twos(8), crown(8))

    def test_by_the_words_of_being_alike(self):
        spaces = small_spaces(2) + small_spaces(3)[4::3] + [crown(2)]
        for one, other in itertools.product(spaces, repeat=2):
            if plain_alike(one, other):
                self.assert_alike(one, other)
            else:
                self.assert_unlike(one, other)

    def test_every_two_spaces_of_up_to_three_points(self):
        # Their cores have no ties: they are alike just where they fall into as many pieces.
        for one, other in itertools.product(small_spaces(3), repeat=2):
            if len(drawn_row(one, 0)) - one[0] == len(drawn_row(other, 0)) - other[0]:
                self.assert_alike(one, other)
            else:
                self.assert_unlike(one, other)

    def test_the_lists_are_the_askers_own(self):
        for one, other in ((chain(3), chain(2)), (crown(2), crown(2)), (chain(3), apart(2)), (apart(2), apart(3))):
            first, second = judged(one, other), judged(one, other)
            for part in first:
                if isinstance(part, list):
                    part.append(9)
                    part.reverse()
            self.assertEqual(judged(one, other), second)
            self.assertNotEqual(first, second)


class Helpers(unittest.TestCase):
    """The second ways of this test are worth something only if they tell both yes and no."""

    def test_plain_has_renaming(self):
        for seed, (one, other) in enumerate(RINGS):
            self.assertFalse(plain_has_renaming(one, other))
            self.assertTrue(plain_has_renaming(one, shuffled(one, seed)))

    def test_is_renaming(self):
        self.assertTrue(is_renaming(chain(2), chain(2), (0, 1)))
        self.assertFalse(is_renaming(chain(2), chain(2), (1, 0)))
        self.assertFalse(is_renaming(apart(2), chain(2), (0, 1)))
        self.assertFalse(is_renaming(apart(2), apart(2), (0, 0)))
        self.assertEqual(renamed(chain(2), (1, 0)), (2, ((1, 0),)))


if __name__ == "__main__":
    unittest.main()
