"""The errors of the interface: their bases, parameters and attributes."""

from pourdrains import errors
from tests.same import Case

WITH_THING = """BadHill BadBook BadTerrace BadLot BadWater BadDeed BadScript BadCouple BadNames BadKind BadStep BadPlan
BadWeaving BadProgram BadNotes BadWeights BadNumber BadHeights BadPoint BadMap BadPrices BadWishes BadPromise""".split()
OTHERS = {
    "BadText": "at",
    "Broken": "promise",
    "Unreached": "terrace",
    "NoneFits": None,
    "NothingToUndo": None,
    "NothingToRedo": None,
}
PARAMETERS = {**{name: "thing" for name in WITH_THING}, **OTHERS}


class Errors(Case):
    def test_all_are_there_and_no_others(self):
        classes = [name for name, value in vars(errors).items() if isinstance(value, type)]
        self.assertEqual(sorted(classes), sorted([*PARAMETERS, "HillError"]))

    def test_bases(self):
        self.assertEqual(errors.HillError.__bases__, (Exception,))
        for name in PARAMETERS:
            self.assertEqual(getattr(errors, name).__bases__, (errors.HillError,), name)

    def test_parameters_are_attributes(self):
        for name, parameter in PARAMETERS.items():
            made = getattr(errors, name)
            if parameter is None:
                self.assertEqual(vars(made()), {})
                continue
            for value in [5, None, True, [], {"a": ([],)}, "text", (1, ())]:
                self.assertEqual(list(vars(made(value))), [parameter])
                self.assertIs(getattr(made(value), parameter), value)
                self.assertIs(getattr(made(**{parameter: value}), parameter), value)

    def test_parameters_are_needed(self):
        for name, parameter in PARAMETERS.items():
            made = getattr(errors, name)
            if parameter is not None:
                self.assertRaises(TypeError, made)
                self.assertRaises(TypeError, made, 1, 2)
