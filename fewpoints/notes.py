"""Spaces written as texts, and read from them."""

from fewpoints.errors import NotRead, SpaceError
from fewpoints.spaces import MOST_POINTS, made, points_over, points_under


def written(space):
    many = space[0]
    return f"{many}:" + "".join([f" {a}<{b}" for a, b in nearest_ties(space)])


# The ties with no point between.
def nearest_ties(space):
    lower = [points_under(space, point) for point in range(space[0])]
    higher = [points_over(space, point) for point in range(space[0])]
    return [(a, b) for a, b in space[1] if not any([point in lower[b] for point in higher[a]])]


def read(text):
    words = text.split(" ")
    many = many_of(words[0])
    pairs = [pair_of(word) for word in words[1:]]
    try:
        space = made(many, pairs)
    except SpaceError:
        raise NotRead("the pairs make no space") from None
    # Pairs may be given twice, in another order, or with a point between, and still make a space.
    if written(space) != text:
        raise NotRead("the space is written otherwise")
    return space


def many_of(word):
    if not word.endswith(":"):
        raise NotRead("a text begins with a number and a colon")
    return number_of(word[:-1])


def pair_of(word):
    parts = word.split("<")
    if len(parts) != 2:
        raise NotRead("a pair is two numbers and one sign between")
    return (number_of(parts[0]), number_of(parts[1]))


def number_of(word):
    # Looked for among the few numbers that can stand there: int would also take signs, blanks and noughts ahead.
    for number in range(MOST_POINTS + 1):
        if str(number) == word:
            return number
    raise NotRead("there is no such number in a written space")
