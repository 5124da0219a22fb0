"""The names, arguments and errors of the interface; wrong arguments, also several at once."""

import ast
import copy
import importlib
import inspect
import os
import unittest

from interface import FUNCTIONS, LAST
from slotstars import errors
from wrong_values import KINDS, PLAIN

FOLDER = os.path.dirname(errors.__file__)
WITH_GIVEN = """InvalidSum InvalidOrder InvalidNumbers InvalidNumber InvalidFraction InvalidRow InvalidPhase InvalidSlots
    InvalidRate InvalidStep InvalidCurrents InvalidSharing InvalidJoining InvalidWrong InvalidTest InvalidFinding
    InvalidRoom InvalidSight InvalidSpan InvalidSlot InvalidPoint InvalidMoment InvalidPairs InvalidName InvalidWish
    InvalidIndex InvalidPhrase Unlike NoMultiple NoDivisor NotReal TooMany NotAChoice NotThree UnknownName
    NotAWorkshop""".split()
WITH_INDEX = """InvalidWinding InvalidCoils InvalidOrders InvalidWays InvalidGroups InvalidTests InvalidFindings
    InvalidBelts InvalidChain InUse Broken""".split()
WITHOUT = "NoChoice NoBelts NoWave NoStarts NothingToUndo".split()


def function_of(module, name):
    """The function of the package."""
    return getattr(importlib.import_module("slotstars." + module), name)


def all_functions():
    """All functions with their modules, names and arguments."""
    return [(module, name, arguments) for module in FUNCTIONS for name, arguments in FUNCTIONS[module].items()]


def raised_by(function, values):
    """The error that the call raises; None if it raises none."""
    try:
        function(*values)
    except errors.SlotError as error:
        return error
    return None


class ErrorsTest(unittest.TestCase):
    def test_classes(self):
        self.assertEqual(errors.SlotError.__bases__, (ValueError,))
        for name in WITH_GIVEN + WITH_INDEX + WITHOUT:
            self.assertEqual(getattr(errors, name).__bases__, (errors.SlotError,), name)
        listed = {name for name in vars(errors) if not name.startswith("_")}
        self.assertEqual(listed, {"SlotError", *WITH_GIVEN, *WITH_INDEX, *WITHOUT})

    def test_attributes(self):
        for names, attribute in ((WITH_GIVEN, "given"), (WITH_INDEX, "index")):
            for name in names:
                for value in PLAIN + (7, 10 ** 40, (1, (2,))):
                    for error in (getattr(errors, name)(value), getattr(errors, name)(**{attribute: value})):
                        self.assertIs(getattr(error, attribute), value)
                        self.assertEqual(list(vars(error)), [attribute])
                with self.assertRaises(TypeError):
                    getattr(errors, name)()
        for name in WITHOUT + ["SlotError"]:
            self.assertEqual(vars(getattr(errors, name)()), {})


class InterfaceTest(unittest.TestCase):
    def test_arguments_and_files(self):
        for module in FUNCTIONS:
            with open(os.path.join(FOLDER, module + ".py"), encoding="utf-8") as held:
                tree = ast.parse(held.read())
            defined = {node.name for node in tree.body if isinstance(node, ast.FunctionDef)}
            self.assertLessEqual(set(FUNCTIONS[module]), defined)
        for module, name, arguments in all_functions():
            spec = inspect.signature(function_of(module, name)).parameters
            self.assertEqual(list(spec), [argument for argument, _, _ in arguments], name)
            for argument in spec.values():
                self.assertEqual(argument.kind, inspect.Parameter.POSITIONAL_OR_KEYWORD)
                self.assertEqual(argument.default, () if argument.name == "barred" else inspect.Parameter.empty)

    def test_by_position_and_by_name(self):
        for module, name, arguments in all_functions():
            function = function_of(module, name)
            values = [value for _, _, value in arguments]
            kept = copy.deepcopy(values)
            named = {argument: value for argument, _, value in reversed(arguments)}
            self.assertEqual(repr(function(*values)), repr(function(**named)), name)
            self.assertEqual(repr(function(*values)), repr(function(*kept)), name)
            self.assertEqual(values, kept)


class WrongArgumentsTest(unittest.TestCase):
    def assert_raised(self, error, wanted, kept, told):
        self.assertIs(error.__class__, wanted, told)
        if wanted is errors.TooMany:
            self.assertEqual(repr(error.given), repr(kept), told)
        elif hasattr(error, "given"):
            self.assertIs(error.given, kept, told)
        else:
            index = getattr(error, "index", None)
            self.assertEqual(index, kept, told)
            self.assertNotIsInstance(index, bool)

    def test_one_wrong_argument(self):
        for module, name, arguments in all_functions():
            function = function_of(module, name)
            for place, (argument, kind, _) in enumerate(arguments):
                if kind is None:
                    continue
                wanted, wrong = KINDS[kind]
                for value, kept in wrong:
                    values = [value if at == place else right for at, (_, _, right) in enumerate(arguments)]
                    told = (name, argument, value)
                    self.assert_raised(raised_by(function, values), wanted, kept, told)

    def test_the_first_of_several_wrong_arguments(self):
        for module, name, arguments in all_functions():
            function = function_of(module, name)
            for place, (_, kind, _) in enumerate(arguments):
                if kind is None:
                    continue
                wanted, wrong = KINDS[kind]
                values = [right for _, _, right in arguments]
                for later in range(place, len(arguments)):
                    values[later] = None
                self.assertIs(raised_by(function, values).__class__, wanted, name)
                values[place], kept = wrong[-1]
                self.assert_raised(raised_by(function, values), wanted, kept, (name, place))

    def test_what_is_told_with_last(self):
        for module, name, values, error, kept in LAST:
            function = function_of(module, name)
            self.assert_raised(raised_by(function, values), getattr(errors, error), kept, (name, values))
            for place, (_, kind, _) in enumerate(FUNCTIONS[module][name]):
                if kind not in ("step", "orders"):
                    wanted, wrong = KINDS[kind]
                    changed = values[:place] + (wrong[-1][0],) + values[place + 1:]
                    self.assert_raised(raised_by(function, changed), wanted, wrong[-1][1], (name, changed))


if __name__ == "__main__":
    unittest.main()
