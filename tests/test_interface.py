"""The names, the parameters and the defaults that the document lists, and conventions [0] to [3]."""

import importlib
import inspect
import itertools
import unittest

from tests.helper import raised
from tests.interface_deals import DEALS_LISTED, DEALS_WRONG
from tests.interface_later import LATER_LISTED, LATER_WRONG
from tests.interface_tables import APART, FIRST_LISTED, FIRST_WRONG
from tests.interface_texts import TEXTS_LISTED, TEXTS_WRONG

LISTED = FIRST_LISTED | LATER_LISTED | DEALS_LISTED | TEXTS_LISTED
WRONG = FIRST_WRONG | LATER_WRONG | DEALS_WRONG | TEXTS_WRONG
# the classes of the interface with the methods that are listed for them
CLASSES = {
    "lessons.Lesson": ("Lesson(marks)", "question(self)", "answer(self, heir)", "guess(self)",
                       "correct(self, family, heir)", "counts(self)"),
    "live.House": ("House(custom, family, names)", "enter(self, deed)", "late(self, number, deed)",
                   "strike(self, number)", "undo(self, *, steps=1)", "again(self, *, steps=1)", "trial(self)",
                   "copy(self)", "heir_name(self)", "claim_names(self, many)", "way_of(self, name)",
                   "name_at(self, way)", "as_story(self)", "named_reigns(self)", "moment(self, number)"),
    "desk.Desk": ("Desk()", "say(self, line)"),
}
METHODS_LISTED = [text.partition("(")[0] for texts in CLASSES.values() for text in texts[1:]]
# it takes what has methods, so nothing of it is told by wrong values
TESTED_APART = ("live.under",)


def function_named(name):
    module, function = name.split(".")
    return getattr(importlib.import_module("heirlines." + module), function)


class Interface(unittest.TestCase):

    def test_names_parameters_and_defaults(self):
        for module, listed in LISTED.items():
            for text in listed:
                name = text.partition("(")[0]
                function = function_named(module + "." + name)
                self.assertEqual(name + str(inspect.signature(function)), text)
                self.assertEqual(function.__module__, "heirlines." + module)

    def test_classes_and_their_own_methods(self):
        for name, (made, *methods) in CLASSES.items():
            one = function_named(name)
            self.assertEqual(one.__name__ + str(inspect.signature(one)), made)
            self.assertEqual(one.__module__, "heirlines." + name.partition(".")[0])
            for text in methods:
                method = vars(one)[text.partition("(")[0]]
                self.assertEqual(method.__name__ + str(inspect.signature(method)), text)
        self.assertIn("__eq__", vars(function_named("live.House")))

    def test_each_function_has_its_wrong_arguments(self):
        listed = {module + "." + text.partition("(")[0] for module, texts in LISTED.items() for text in texts}
        self.assertEqual(set(WRONG) | set(APART) | set(TESTED_APART), listed)


class Wrong(unittest.TestCase):

    def check(self, function, arguments, told, name):
        self.assertEqual(raised(function, *arguments), told, (name, arguments))
        names = list(inspect.signature(function).parameters)
        named = dict(reversed(list(zip(names, arguments))))
        self.assertEqual(raised(function, **named), told, (name, arguments))

    def test_good_ones_by_position_and_by_name(self):
        for name, (good, _) in WRONG.items():
            function = function_named(name)
            names = list(inspect.signature(function).parameters)
            self.assertEqual(function(*good), function(**dict(zip(names, good))), name)
            self.assertEqual(function(*good), function(*good), name)

    def test_one_wrong_argument(self):
        for name, (good, wrong) in WRONG.items():
            for place, values in enumerate(wrong):
                for value, told in values:
                    arguments = good[:place] + (value,) + good[place + 1:]
                    self.check(function_named(name), arguments, told, name)

    def test_two_wrong_arguments_at_once(self):
        for name, (good, wrong) in WRONG.items():
            for first, second in itertools.combinations(range(len(good)), 2):
                for value, told in wrong[first]:
                    for other, _ in wrong[second][::2]:
                        arguments = list(good)
                        arguments[first], arguments[second] = value, other
                        self.check(function_named(name), tuple(arguments), told, name)

    def test_all_wrong_at_once(self):
        for name, (good, wrong) in WRONG.items():
            if all(wrong):
                self.check(function_named(name), tuple(values[0][0] for values in wrong), wrong[0][0][1], name)

    def test_the_very_value_is_in_the_error(self):
        for name, (good, wrong) in WRONG.items():
            for place, values in enumerate(wrong):
                for value, told in values:
                    if told[0] in ("BadNumber", "BadWay") and told[1] is value:
                        arguments = good[:place] + (value,) + good[place + 1:]
                        try:
                            function_named(name)(*arguments)
                        except ValueError as error:
                            self.assertIs(error.value if told[0] == "BadNumber" else error.way, value, name)

    def test_arguments_are_never_modified(self):
        for name, (good, wrong) in WRONG.items():
            before = repr((good, wrong))
            raised(function_named(name), *good)
            for place, values in enumerate(wrong):
                for value, _ in values:
                    raised(function_named(name), *(good[:place] + (value,) + good[place + 1:]))
            self.assertEqual(repr((good, wrong)), before)


class Plain(unittest.TestCase):

    def kinds(self, value):
        if isinstance(value, tuple):
            self.assertIs(type(value), tuple)
            for item in value:
                self.kinds(item)
        else:
            self.assertIn(type(value), (int, bool, str, type(None)))

    def test_plain_values_are_told(self):
        for name, (good, _) in WRONG.items():
            self.kinds(function_named(name)(*good))


if __name__ == "__main__":
    unittest.main()
