"""What the document says over the whole program: its names and arguments, and that nothing is changed or kept."""

import copy
import importlib
import inspect
import unittest

from tests.helpers import apart, chain, crown, space_of

INTERFACE = {
    "spaces": ["made(many, pairs)", "under(space, a, b)", "pieces(space)", "even_count(space)"],
    "maps": [
        "is_map(one, other, row)",
        "below(other, first, second)",
        "is_fence(one, other, rows)",
        "many_maps(one, other)",
    ],
    "folds": [
        "goal(space, point)",
        "foldable(space)",
        "folded(space, point)",
        "along(space, row)",
        "left(space, row)",
        "sendings(space, row)",
    ],
    "cores": ["row_to_core(space)", "renaming(one, other)", "judged(one, other)"],
    "building": ["beside(one, other)", "times(one, other)", "topped(space)", "turned(space)"],
    "notes": ["written(space)", "read(text)"],
}

VEE = space_of(3, [(0, 1), (0, 2)])
ASKED = [
    ("spaces", "made", (3, [[0, 1], [1, 2], [2, 2]])),
    ("spaces", "under", (VEE, 0, 1)),
    ("spaces", "pieces", (VEE,)),
    ("spaces", "even_count", (VEE,)),
    ("maps", "is_map", (VEE, VEE, (0, 0, 1))),
    ("maps", "below", (VEE, (0, 0, 0), (0, 0, 1))),
    ("maps", "is_fence", (VEE, VEE, [(0, 0, 0), (0, 0, 1)])),
    ("maps", "many_maps", (VEE, VEE)),
    ("folds", "goal", (VEE, 1)),
    ("folds", "foldable", (VEE,)),
    ("folds", "folded", (VEE, 1)),
    ("folds", "along", (VEE, [2, 1])),
    ("folds", "left", (VEE, [2, 1])),
    ("folds", "sendings", (VEE, [2, 1])),
    ("cores", "row_to_core", (VEE,)),
    ("cores", "renaming", (VEE, VEE)),
    ("cores", "judged", (VEE, chain(4))),
    ("cores", "judged", (VEE, crown(2))),
    ("cores", "judged", (apart(2), apart(2))),
    ("building", "beside", (VEE, crown(2))),
    ("building", "times", (VEE, crown(2))),
    ("building", "topped", (VEE,)),
    ("building", "turned", (VEE,)),
    ("notes", "written", (VEE,)),
    ("notes", "read", ("3: 0<1 0<2",)),
]


def of(module, name):
    return getattr(importlib.import_module(f"fewpoints.{module}"), name)


def lists_in(value):
    if not isinstance(value, (list, tuple)):
        return []
    own = [value] if isinstance(value, list) else []
    return own + [found for part in value for found in lists_in(part)]


class Interface(unittest.TestCase):
    def test_names_and_arguments(self):
        for module, calls in INTERFACE.items():
            for call in calls:
                name = call.partition("(")[0]
                self.assertEqual(name + str(inspect.signature(of(module, name))), call)

    def test_all_are_asked_here(self):
        named = {(module, call.partition("(")[0]) for module, calls in INTERFACE.items() for call in calls}
        self.assertEqual({(module, name) for module, name, arguments in ASKED}, named)

    def test_what_is_handed_in_is_neither_changed_nor_kept(self):
        for module, name, arguments in ASKED:
            handed = copy.deepcopy(arguments)
            told = of(module, name)(*handed)
            self.assertEqual(handed, arguments)
            before = copy.deepcopy(told)
            for some in lists_in(handed):
                some.clear()
            self.assertEqual(told, before)

    def test_what_is_told_is_the_askers_own(self):
        for module, name, arguments in ASKED:
            handed = copy.deepcopy(arguments)
            told = of(module, name)(*handed)
            before = copy.deepcopy(told)
            found = lists_in(told)
            places = [id(some) for some in found + lists_in(handed)]
            self.assertEqual(len(set(places)), len(places), name)
            for some in found:
                some.append("more")
            self.assertEqual(handed, arguments)
            self.assertEqual(of(module, name)(*handed), before)


if __name__ == "__main__":
    unittest.main()
