"""Marks on the points of two spaces, which tell points apart by how they lie.

Marks are a list with a number for each point. A renaming can send a point
only to one with the same mark; so marks make the search for one short.
"""

from fewpoints.spaces import points_over, points_under


# For each point the tuple of the points under it and that of the points over it.
def lying(space):
    return [
        (tuple(points_under(space, point)), tuple(points_over(space, point)))
        for point in range(space[0])
    ]


# Both spaces' marks, made finer as long as they show points to lie unlike; None where no renaming fits them.
def refined(one_lying, other_lying, one_marks, other_marks):
    known = 0
    while True:
        one_views = views(one_lying, one_marks)
        other_views = views(other_lying, other_marks)
        if sorted(one_views) != sorted(other_views):
            return None
        numbers = numbered(one_views)
        # Each view holds the point's own mark: as many views as marks, and none of the marks was split.
        if len(numbers) == known:
            return (one_marks, other_marks)
        known = len(numbers)
        one_marks = [numbers[view] for view in one_views]
        other_marks = [numbers[view] for view in other_views]


# What each point sees: its own mark, the marks under it and the marks over it.
def views(lies, marks):
    return [
        (marks[point], marks_of(marks, lies[point][0]), marks_of(marks, lies[point][1]))
        for point in range(len(marks))
    ]


def marks_of(marks, points):
    return tuple(sorted([marks[point] for point in points]))


def numbered(some_views):
    numbers = {}
    for number, view in enumerate(sorted(set(some_views))):
        numbers[view] = number
    return numbers


# A point whose mark another one has too, or None.
def doubtful(marks):
    for point, mark in enumerate(marks):
        if marks.count(mark) > 1:
            return point
    return None


# The marks with a new one at the point. Refined marks are all less than there are points.
def set_apart(marks, point):
    return [len(marks) if place == point else mark for place, mark in enumerate(marks)]
