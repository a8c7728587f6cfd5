import itertools
import re
import unittest

from fewpoints.errors import NotRead
from fewpoints.notes import read, written
from tests.helpers import (
    Refusing,
    apart,
    chain,
    crown,
    goes_round,
    joined,
    many_spaces,
    small_spaces,
    some_spaces,
    space_of,
    twos,
)

# All signs that a text may have.
SIGNS = ["\t", "\n"] + [chr(code) for code in range(ord(" "), ord("~") + 1) if chr(code) != "%"]
FIGURES = "(0|[1-9][0-9]*)"
SPACES = small_spaces(4) + many_spaces()


def plain_written(space):
    ties = set(space[1])
    pairs = [
        (a, b)
        for a, b in itertools.product(range(space[0]), repeat=2)
        if (a, b) in ties and not any((a, c) in ties and (c, b) in ties for c in range(space[0]))
    ]
    return f"{space[0]}:" + "".join(f" {a}<{b}" for a, b in pairs)


def plain_read(text):
    """The space that the text is the text of, or None; by the words of point 14."""
    if not re.fullmatch(f"{FIGURES}:( {FIGURES}<{FIGURES})*", text):
        return None
    numbers = [int(figures) for figures in re.findall("[0-9]+", text)]
    many, rest = numbers[0], numbers[1:]
    pairs = list(zip(rest[::2], rest[1::2]))
    if not 1 <= many <= 16 or any(number >= many for number in rest):
        return None
    if goes_round(many, pairs):
        return None
    space = space_of(many, pairs)
    return space if plain_written(space) == text else None


def with_one_sign_otherwise(text, signs):
    for place in range(len(text) + 1):
        yield text[:place] + text[place + 1 :]
        for sign in signs:
            yield text[:place] + sign + text[place:]
            yield text[:place] + sign + text[place + 1 :]


class Written(unittest.TestCase):
    def test_known(self):
        self.assertEqual(written(chain(3)), "3: 0<1 1<2")
        self.assertEqual(written(crown(2)), "4: 0<2 0<3 1<2 1<3")
        self.assertEqual(written(space_of(4, [(3, 2), (2, 0), (3, 1)])), "4: 2<0 3<1 3<2")

    def test_no_ties(self):
        self.assertEqual(written(apart(1)), "1:")
        self.assertEqual(written(apart(10)), "10:")
        self.assertEqual(written(apart(16)), "16:")

    def test_sixteen_points(self):
        self.assertEqual(written(chain(16)), "16: " + " ".join(f"{a}<{a + 1}" for a in range(15)))
        self.assertEqual(written(space_of(16, [(15, 2), (15, 10), (2, 1)])), "16: 2<1 15<2 15<10")

    def test_the_order_is_that_of_tuples_not_of_texts(self):
        self.assertEqual(written(space_of(12, [(10, 0), (2, 11), (2, 3), (1, 0)])), "12: 1<0 2<3 2<11 10<0")

    def test_pair_by_pair(self):
        for space in SPACES:
            self.assertEqual(written(space), plain_written(space))

    def test_the_most_signs(self):
        space = joined(apart(8), apart(8))
        self.assertEqual(written(space), plain_written(space))
        self.assertEqual(written(space).count("<"), 64)
        self.assertLessEqual(len(written(space)), 600)


class Read(Refusing):
    def assert_read_by_the_words(self, text):
        wanted = plain_read(text)
        if wanted is None:
            with self.assertRaises(NotRead, msg=repr(text)):
                read(text)
        else:
            self.assertEqual(read(text), wanted)

    def assert_not_read(self, *texts):
        for text in texts:
            self.assertIsNone(plain_read(text), text)
            self.assert_refused(NotRead, read, text)

    def test_known(self):
        self.assertEqual(read("3: 0<1 1<2"), (3, ((0, 1), (0, 2), (1, 2))))
        self.assertEqual(read("1:"), (1, ()))
        self.assertEqual(read("16:"), (16, ()))
        self.assertEqual(read("16: 2<1 15<2 15<10"), (16, ((2, 1), (15, 1), (15, 2), (15, 10))))

    def test_what_is_written_is_read(self):
        for space in SPACES + [joined(apart(8), apart(8))]:
            self.assertEqual(read(written(space)), space)
            self.assertEqual(plain_read(plain_written(space)), space)

    def test_a_space_as_it_is_told(self):
        for space in some_spaces(16, 32):
            told = read(plain_written(space))
            self.assertEqual([type(told), type(told[0]), type(told[1])], [tuple, int, tuple])
            self.assertEqual([type(tie) for tie in told[1]], [tuple] * len(space[1]))

    def test_each_sign_otherwise(self):
        read_texts = 0
        for text in ("1:", "2: 1<0", "3: 0<1 1<2", "4: 0<2 0<3 1<2 1<3", "12: 1<0 2<3 2<11 10<0"):
            for other in with_one_sign_otherwise(text, SIGNS):
                self.assert_read_by_the_words(other)
                read_texts += plain_read(other) is not None
        self.assertGreater(read_texts, 20)

    def test_each_sign_otherwise_in_long_texts(self):
        for space in (chain(16), twos(8), crown(8)):
            for other in with_one_sign_otherwise(plain_written(space), "0123456789:< ->"):
                self.assert_read_by_the_words(other)

    def test_a_pair_with_a_point_between(self):
        self.assert_not_read("3: 0<1 0<2 1<2", "4: 0<1 0<3 1<2 2<3", "16: 0<1 0<15 1<15")

    def test_a_pair_twice(self):
        self.assert_not_read("2: 0<1 0<1", "3: 0<1 0<1 1<2", "3: 0<1 1<2 0<1")

    def test_a_pair_too_many_or_two_exchanged(self):
        for space in some_spaces(16, 64):
            words = plain_written(space).split(" ")
            for place in range(1, len(words)):
                self.assert_not_read(" ".join(words[:place] + [words[place]] + words[place:]))
                if place > 1:
                    moved = words[: place - 1] + [words[place], words[place - 1]] + words[place + 1 :]
                    self.assert_not_read(" ".join(moved))
                self.assert_read_by_the_words(" ".join(words[:place] + words[place + 1 :]))
            for a, b in itertools.product(range(space[0]), repeat=2):
                pairs = [tuple(map(int, word.split("<"))) for word in words[1:]] + [(a, b)]
                self.assert_read_by_the_words(
                    words[0] + "".join(f" {low}<{high}" for low, high in sorted(pairs))
                )

    def test_a_point_and_itself(self):
        self.assert_not_read("1: 0<0", "3: 0<1 1<1 1<2", "16: 15<15")

    def test_a_nought_ahead(self):
        self.assert_not_read("03: 0<1 1<2", "3: 00<1 1<2", "3: 0<01 1<2", "3: 0<1 01<2", "3: 0<1 1<02", "01:", "016:")

    def test_blanks_tabs_and_line_ends(self):
        text = "3: 0<1 1<2"
        for sign in " \t\n":
            self.assert_not_read(sign, sign + text, text + sign, text.replace(" ", sign * 2))
            for place in range(len(text) + 1):
                self.assert_not_read(text[:place] + sign + text[place:])
        self.assert_not_read("3:0<1 1<2", "3: 0<11<2", text.replace(" ", "\t"), text.replace(" ", "\n"), "1: ", "1 :")

    def test_no_figures(self):
        self.assert_not_read("", ":", "<", ": <", "::", " ", "-", "abc", "one:", "3: a<b", "a: 0<1", "~" * 600)
        self.assert_not_read("+3:", "3_0:", "1_6:", "-1:", "3: -0<1", "3: +0<1", "3: 0<1_", "3: 0 < 1", "0x3:", "3.0:")

    def test_signs_left_out_or_twice(self):
        self.assert_not_read("3", "3: ", "3: 0", "3: 0<", "3: <1", "3: 0<1<2", "3: 0<<1", "3:: 0<1", "3: 0<1:")
        self.assert_not_read("3: 0>1", "3; 0<1", "0<1", " 0<1", ": 0<1", "3: 3: 0<1", "3: 0<1 1<2 ", "3: 0<1  1<2")

    def test_points_that_there_are_not(self):
        self.assert_not_read("3: 0<3", "3: 3<0", "3: 3<3", "1: 0<1", "16: 0<16", "16: 16<0", "16: 16<17", "3: 0<1 1<99")

    def test_pairs_that_lead_round(self):
        self.assert_not_read("2: 0<1 1<0", "3: 0<1 1<2 2<0", "16: 0<15 15<0", "5: 0<1 2<3 3<4 4<2")

    def test_too_few_and_too_many_points(self):
        self.assert_not_read("0:", "17:", "18:", "99:", "100:", "17: 0<1", "17: 0<16", "0: 0<0", "17: 0<1 1<0")

    def test_numbers_of_many_figures(self):
        for many in (3, 20, 400, 599, 5000):
            figures = "1" * many
            self.assert_refused(NotRead, read, f"{figures}:")
            self.assert_refused(NotRead, read, f"3: 0<{figures}")
            self.assert_refused(NotRead, read, f"3: {figures}<1")
            self.assert_refused(NotRead, read, f"{'0' * many}3: 0<1")
            self.assert_refused(NotRead, read, f"3: {'0' * many}<1")

    def test_long_texts(self):
        for many in (100, 149, 200):
            self.assert_not_read("16:" + " 0<1" * many, "16:" + " " * 4 * many, "<" * 4 * many)


if __name__ == "__main__":
    unittest.main()
