"""[0.2]: which error comes first, any values, arguments by position and by name, nothing changed, the same again."""

import copy
import importlib

from pourdrains.errors import HillError
from tests import plain
from tests.interface import FREE, KINDS, PLAN, SCRIPT, functions
from tests.same import Case
from tests.things import THINGS, WORKS, changed, state_of

VEE = (3, ((0, 2), (1, 2)))

# Right arguments for each kind, all of the hill (or book) VEE.
RIGHT = {
    "hill": VEE,
    "tree": VEE,
    "book": VEE,
    "names": (2, 0, 1),
    "lot": (0, 2),
    "terrace": 2,
    "water": (0, 1),
    "deed": ("open", 1),
    "script": SCRIPT,
    "couple": ((1,), (0, 2)),
    "kind": ((0,), (2,)),
    "prices": ((1, 2, 3), (4, 5, 1000)),
    "most": 3,
    "count": 2,
    "step": ("put", 0, ("pour", 1), 1),
    "plan": PLAN,
    "hands": ((("pour", 2),), (), (("open", 0), ("pour", 1))),
    "weaving": (1, 0, 2),
    "book_of_3": VEE,
    "book_of_4": VEE,
    "program": (("look", 1, 2, 1), ("do", ("pour", 2), 2), ("end",)),
    "ground": VEE,
    "notes": (("do", ("open", 1)), ("saw", 1, False)),
    "but_2": 1,
    "weights": ((("open", 0), 2), (("pour", 2), 1000)),
    "h": 2,
    "level": 2,
    "heights": (2, 1, 1),
    "height_script": (("pour", 2, 2), ("open", 0, 1)),
    "height_deed": ("open", 1, 0),
    "tops": ((0, 3), (2, 1)),
    "point": (1, 2),
    "points": ((1, 0), (0, 2), (0, 0)),
    "grid_script": (("pour", (1, 3)), ("open", (0, 2))),
    "grid_couple": (((1, 1),), ((0, 2), (3, 0))),
    "rounds": 10 ** 30,
    "places": (0, 0, 2),
    "unlike": (2, 0),
    "as_large": (3, ((2, 0),)),
    "wishes": ((0, "dry"), (2, "kept")),
    "b": 2,
    "d": 2,
    "thing": ("script", (("pour", 2), ("open", 0))),
}


def wrong_of(kind):
    """Values that are wrong for a parameter, all of them for the hill VEE."""
    _, is_right = KINDS[kind]
    return [thing for thing in changed(RIGHT[kind]) if not is_right(VEE, thing)]


WRONG = {kind: wrong_of(kind) for kind in KINDS}


def all_functions():
    for module, name, parameters in functions():
        if parameters[0][0] != "text":
            yield getattr(importlib.import_module("pourdrains." + module), name), parameters


class Conventions(Case):
    def wanted(self, parameters, things):
        """The first error that is listed, and the value that it is raised with."""
        for (_, kind), thing in zip(parameters, things):
            error, is_right = KINDS[kind]
            if not is_right(VEE, thing):
                return error, thing
        return None, None

    def hold(self, function, parameters, things):
        error, thing = self.wanted(parameters, things)
        self.assertIsNotNone(error)
        self.fails(error, {"thing": thing}, function, *things)
        named = {parameter: given for (parameter, _), given in zip(parameters, things)}
        self.fails(error, {"thing": thing}, function, **dict(reversed(named.items())))

    def test_there_are_wrong_ones(self):
        for kind, things in WRONG.items():
            self.assertGreater(len(things), 50 if kind not in FREE else -1, kind)

    def test_one_wrong_argument(self):
        for function, parameters in all_functions():
            right = [RIGHT[kind] for _, kind in parameters]
            for at, (_, kind) in enumerate(parameters):
                for thing in WRONG[kind]:
                    self.hold(function, parameters, right[:at] + [thing] + right[at + 1 :])

    def test_two_wrong_arguments(self):
        for function, parameters in all_functions():
            right = [RIGHT[kind] for _, kind in parameters]
            for at in range(len(parameters)):
                for behind in range(at + 1, len(parameters)):
                    for one in WRONG[parameters[at][1]][::11]:
                        for other in THINGS[::7] + WRONG[parameters[behind][1]][::29]:
                            things = list(right)
                            things[at], things[behind] = one, other
                            self.hold(function, parameters, things)

    def test_all_arguments_wrong(self):
        for function, parameters in all_functions():
            for thing in THINGS:
                things = [thing] * len(parameters)
                if not KINDS[parameters[0][1]][1](VEE, thing):
                    self.hold(function, parameters, things)

    def test_any_value_behind_what_is_right(self):
        for function, parameters in all_functions():
            if parameters[-1][1] == "thing":
                right = [RIGHT[kind] for _, kind in parameters[:-1]]
                for thing in THINGS:
                    self.assertIs(type(function(*right, thing)), bool)

    def test_by_position_and_by_name(self):
        for function, parameters in all_functions():
            right = [RIGHT[kind] for _, kind in parameters]
            named = {parameter: RIGHT[kind] for parameter, kind in parameters}
            first = repr(function(*right))
            self.assertEqual(repr(function(**named)), first)
            self.assertEqual(repr(function(**dict(reversed(named.items())))), first)
            self.assertEqual(repr(function(*right)), first)

    def test_results_are_plain(self):
        for function, parameters in all_functions():
            self.assertTrue(self.is_plain(function(*[RIGHT[kind] for _, kind in parameters])))

    def is_plain(self, thing):
        if type(thing) is tuple:
            return all(self.is_plain(item) for item in thing)
        return thing is None or type(thing) in (int, str, bool)

    def test_nothing_that_is_passed_is_changed(self):
        passed = [[0, 1], {0: [1]}, (2, [[0, 1]]), ([("pour", 0)], {}), [((), 0)], ("table", [((), 0)])]
        for function, parameters in all_functions():
            for at in range(parameters[0][1] == "d", len(parameters)):
                for thing in copy.deepcopy(passed):
                    things = [RIGHT[kind] for _, kind in parameters]
                    things[at] = thing
                    ahead = repr(things)
                    self.call(function, things)
                    self.assertEqual(repr(things), ahead)

    def test_works_that_are_passed_are_not_changed(self):
        ahead = state_of(WORKS)
        for function, parameters in all_functions():
            for thing in [WORKS, (WORKS,), (WORKS, WORKS), {"works": [WORKS]}]:
                for at in range(parameters[0][1] == "d", len(parameters)):
                    things = [RIGHT[kind] for _, kind in parameters]
                    things[at] = (thing,) if parameters[at][1] == "points" else thing
                    self.call(function, things)
        self.assertEqual(state_of(WORKS), ahead)

    def test_the_same_error_again(self):
        for function, parameters in all_functions():
            for thing in ([], None, {"a": []}):
                things = [2 if kind == "d" else [thing] if kind == "points" else thing for _, kind in parameters]
                self.assertEqual(self.call(function, things), self.call(function, things))

    def call(self, function, things):
        """What a call comes to, so that it can be compared."""
        try:
            return repr(function(*things))
        except HillError as error:
            return type(error), repr(vars(error))

    def test_bools_are_no_integers(self):
        self.assertFalse(plain.is_hill((True, ())))
        for function, parameters in all_functions():
            things = [with_bools(RIGHT[kind]) for _, kind in parameters]
            if parameters[0][1] not in FREE:
                self.hold(function, parameters, [(1, ((False, True),))] + things[1:])


def with_bools(thing):
    if isinstance(thing, tuple):
        return tuple(map(with_bools, thing))
    return bool(thing) if thing in (0, 1) else thing
