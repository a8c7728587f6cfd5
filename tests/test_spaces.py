import itertools
import unittest

from fewpoints.errors import NoPoint, Round, SpaceError, TooMany
from fewpoints.spaces import even_count, made, pieces, under
from tests.helpers import (
    FAR,
    FARTHER,
    Refusing,
    all_spaces,
    apart,
    chain,
    goes_round,
    pair_lists,
    small_spaces,
    some_pairs,
    some_spaces,
    space_of,
)


class Made(Refusing):
    def test_no_pairs(self):
        for many in range(1, 17):
            self.assertEqual(made(many, []), (many, ()))

    def test_pairs_lead_on(self):
        self.assertEqual(made(3, [(0, 1), (1, 2)]), (3, ((0, 1), (0, 2), (1, 2))))
        self.assertEqual(made(4, [(2, 0), (3, 2), (1, 3)]), (4, ((1, 0), (1, 2), (1, 3), (2, 0), (3, 0), (3, 2))))

    def test_a_row_of_sixteen(self):
        all_ties = tuple(itertools.combinations(range(16), 2))
        steps = [(a, a + 1) for a in range(15)]
        self.assertEqual(made(16, steps), (16, all_ties))
        self.assertEqual(made(16, steps[::-1]), (16, all_ties))
        self.assertEqual(made(16, steps[1::2] + steps[::2]), (16, all_ties))

    def test_pairs_more_than_once(self):
        self.assertEqual(made(3, [(2, 1), (2, 1), (2, 1)]), (3, ((2, 1),)))

    def test_a_pair_of_a_point_and_itself_tells_nothing(self):
        self.assertEqual(made(1, [(0, 0)]), (1, ()))
        self.assertEqual(made(3, [(1, 1), (0, 1), (0, 0), (2, 2)]), (3, ((0, 1),)))

    def test_every_set_of_pairs_of_up_to_four_points(self):
        for many in range(1, 5):
            for pairs in pair_lists(many):
                if goes_round(many, pairs):
                    with self.assertRaises(Round):
                        made(many, pairs)
                else:
                    self.assertEqual(made(many, pairs), space_of(many, pairs))

    def test_many_pairs_in_any_order(self):
        for seed in range(320):
            many = 1 + seed % 16
            pairs = some_pairs(seed, many, seed % 25)
            self.assertEqual(made(many, pairs), space_of(many, pairs), (many, pairs))

    def test_ties_are_tuples_in_order(self):
        for seed in range(32):
            space = made(16, [list(pair) for pair in some_pairs(seed, 16, 24)])
            self.assertIs(type(space), tuple)
            self.assertIs(type(space[1]), tuple)
            self.assertEqual([type(tie) for tie in space[1]], [tuple] * len(space[1]))
            self.assertEqual(list(space[1]), sorted(set(space[1])))

    def test_ties_make_the_same_space_again(self):
        for space in some_spaces(16, 64):
            self.assertEqual(made(space[0], list(space[1])), space)

    def test_too_many(self):
        for many in (0, -1, -16, 17, 18, 256, FAR, -FAR, FARTHER, -FARTHER):
            self.assert_refused(TooMany, made, many, [])

    def test_too_many_goes_ahead_of_all_else(self):
        for many in (0, -1, 17, FAR):
            self.assert_refused(TooMany, made, many, [(0, 0)])
            self.assert_refused(TooMany, made, many, [(0, FAR + 1)])
            self.assert_refused(TooMany, made, many, [(0, 1), (1, 0)])
            self.assert_refused(TooMany, made, many, [(-1, -1), (0, 1), (1, 0)])

    def test_no_point(self):
        for many in (1, 2, 3, 15, 16):
            for number in (-1, -many, many, many + 1, FAR, -FAR, FARTHER):
                self.assert_refused(NoPoint, made, many, [(number, 0)])
                self.assert_refused(NoPoint, made, many, [(0, number)])
                self.assert_refused(NoPoint, made, many, [(number, number)])
                self.assert_refused(NoPoint, made, many, [(number, number + 1)])
                self.assert_refused(NoPoint, made, many, [(0, 0), (0, many - 1), (number, number)])

    def test_no_point_goes_ahead_of_round(self):
        for stray in ((5, 0), (0, 5), (5, 5), (-1, 0), (0, -1), (-1, -1)):
            self.assert_refused(NoPoint, made, 5, [stray, (0, 1), (1, 0)])
            self.assert_refused(NoPoint, made, 5, [(0, 1), (1, 0), stray])
            self.assert_refused(NoPoint, made, 5, [(0, 1), stray, (1, 0)])

    def test_round(self):
        self.assert_refused(Round, made, 2, [(0, 1), (1, 0)])
        self.assert_refused(Round, made, 2, [(0, 0), (0, 1), (1, 1), (1, 0)])
        self.assert_refused(Round, made, 6, [(3, 5), (0, 1), (5, 2), (2, 3)])
        for many in range(2, 17):
            steps = [(a, (a + 1) % many) for a in range(many)]
            self.assert_refused(Round, made, many, steps)
            self.assert_refused(Round, made, many, steps[::-1])
            self.assertEqual(len(made(many, steps[:-1])[1]), many * (many - 1) // 2)

    def test_what_is_handed_in_is_neither_changed_nor_kept(self):
        pairs = [[2, 1], [1, 1], [1, 0], [2, 1]]
        space = made(3, pairs)
        self.assertEqual(pairs, [[2, 1], [1, 1], [1, 0], [2, 1]])
        pairs[0][0] = 0
        pairs.append([0, 2])
        pairs.pop(0)
        self.assertEqual(space, (3, ((1, 0), (2, 0), (2, 1))))

    def test_a_refused_list_stays_as_it_was(self):
        for many, pairs in ((17, [(0, 1)]), (2, [(0, 1), (2, 2)]), (2, [(0, 1), (1, 0), (1, 1)])):
            before = list(pairs)
            with self.assertRaises(SpaceError):
                made(many, pairs)
            self.assertEqual(pairs, before)


class Under(Refusing):
    def test_each_two_points(self):
        for space in small_spaces(4) + some_spaces(16, 48):
            for a, b in itertools.product(range(space[0]), repeat=2):
                self.assertIs(under(space, a, b), (a, b) in space[1])

    def test_a_point_and_itself(self):
        self.assertIs(under(chain(16), 15, 15), False)
        self.assertIs(under(chain(1), 0, 0), False)

    def test_no_point(self):
        for space in (apart(1), chain(2), chain(3), apart(16), chain(16)):
            for number in (-1, -space[0], space[0], space[0] + 1, FAR, -FAR, FARTHER):
                self.assert_refused(NoPoint, under, space, number, 0)
                self.assert_refused(NoPoint, under, space, 0, number)
                self.assert_refused(NoPoint, under, space, number, number)
                self.assert_refused(NoPoint, under, space, number, -2)


class Pieces(unittest.TestCase):
    def test_one_piece(self):
        self.assertEqual(pieces(chain(1)), [[0]])
        self.assertEqual(pieces(chain(5)), [[0, 1, 2, 3, 4]])
        self.assertEqual(pieces(space_of(5, [(4, 0), (4, 1), (2, 1), (2, 3)])), [[0, 1, 2, 3, 4]])

    def test_several(self):
        self.assertEqual(pieces(space_of(6, [(5, 0), (4, 2), (2, 1)])), [[0, 5], [1, 2, 4], [3]])
        self.assertEqual(pieces(space_of(4, [(3, 1), (2, 0)])), [[0, 2], [1, 3]])

    def test_points_by_themselves(self):
        for many in range(1, 17):
            self.assertEqual(pieces(apart(many)), [[point] for point in range(many)])

    def test_a_way_up_and_down_over_sixteen(self):
        # Points by turns under and over: each end is come to over all the others alone.
        order = [8, 1, 15, 3, 0, 12, 5, 7, 2, 9, 14, 11, 6, 13, 10, 4]
        steps = [(order[k], order[k + 1]) if k % 2 else (order[k + 1], order[k]) for k in range(15)]
        self.assertEqual(pieces(space_of(16, steps)), [list(range(16))])
        self.assertEqual(
            pieces(space_of(16, steps[:7] + steps[8:])), [sorted(order[:8]), sorted(order[8:])]
        )

    def test_against_points_joined_one_tie_after_the_other(self):
        for space in small_spaces(4) + some_spaces(16, 96):
            mark = list(range(space[0]))
            for a, b in space[1]:
                mark = [mark[a] if own == mark[b] else own for own in mark]
            wanted = sorted([p for p in range(space[0]) if mark[p] == own] for own in set(mark))
            self.assertEqual(pieces(space), wanted)

    def test_the_lists_are_the_askers_own(self):
        space = space_of(4, [(3, 1)])
        first = pieces(space)
        for piece in first:
            piece.append(9)
        first.pop()
        self.assertEqual(first, [[0, 9], [1, 3, 9]])
        self.assertEqual(pieces(space), [[0], [1, 3], [2]])
        self.assertEqual(space, (4, ((3, 1),)))

    def test_somewhat_beyond_sixteen_points(self):
        self.assertEqual(pieces((18, ((0, 17), (16, 17)))), [[0, 16, 17]] + [[p] for p in range(1, 16)])


def is_rising(space, row):
    return all((a, b) in space[1] for a, b in zip(row, row[1:]))


def plain_even_count(space):
    """All sets of points are gone through; a set is a rising row in one order at most, that of points from below."""
    order = sorted(range(space[0]), key=lambda b: sum(tie[1] == b for tie in space[1]))
    count = 0
    for size in range(1, space[0] + 1):
        rows = [row for row in itertools.combinations(order, size) if is_rising(space, row)]
        count += len(rows) if size % 2 else -len(rows)
    return count


class EvenCount(unittest.TestCase):
    def test_one_point(self):
        self.assertEqual(even_count((1, ())), 1)

    def test_no_ties(self):
        for many in range(1, 17):
            self.assertEqual(even_count(apart(many)), many)

    def test_each_under_the_next(self):
        for many in range(1, 17):
            self.assertEqual(even_count(chain(many)), 1)
            self.assertEqual(even_count(space_of(many, [(a + 1, a) for a in range(many - 1)])), 1)

    def test_nought(self):
        self.assertEqual(even_count(space_of(4, [(0, 2), (0, 3), (1, 2), (1, 3)])), 0)

    def test_below_nought(self):
        self.assertEqual(even_count(space_of(5, [(a, b) for a in (0, 1) for b in (2, 3, 4)])), -1)
        self.assertEqual(even_count(space_of(16, [(a, b) for a in range(8) for b in range(8, 16)])), 16 - 64)

    def test_above_one(self):
        twos = [(0, 2), (0, 3), (1, 2), (1, 3), (2, 4), (2, 5), (3, 4), (3, 5)]
        self.assertEqual(even_count(space_of(6, twos)), 2)

    def test_every_space_of_up_to_four_points(self):
        # Here every order of every set of points is gone through.
        for space in small_spaces(4):
            count = 0
            for size in range(1, space[0] + 1):
                rows = [row for row in itertools.permutations(range(space[0]), size) if is_rising(space, row)]
                count += len(rows) if size % 2 else -len(rows)
            self.assertEqual(even_count(space), count, space)

    def test_spaces_of_up_to_ten_points(self):
        counts = set()
        for space in some_spaces(10, 200):
            counts.add(even_count(space))
            self.assertEqual(even_count(space), plain_even_count(space), space)
        self.assertTrue(min(counts) < 1 < max(counts))

    def test_the_test_has_every_space(self):
        self.assertEqual([len(all_spaces(many)) for many in range(1, 5)], [1, 3, 19, 219])


if __name__ == "__main__":
    unittest.main()
