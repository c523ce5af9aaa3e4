"""The interface as a whole: names, files, arguments, kinds of errors, and what all doors share."""

import ast
import copy
import inspect
import os
import unittest

import allknown
from allknown import answers, errors, groups, threes, webs
from allknown.errors import BadCount, BadWeb, TooFew, WebError
from tests import helper

INTERFACE = [
    (errors, {"WebError": None, "BadWeb": None, "BadCount": None, "TooFew": None}),
    (webs, {"ties": ["web"], "turned": ["web"]}),
    (answers, {"Answer": None, "Known": ["people"], "Unknown": ["people"]}),
    (threes, {"alike": ["web"], "three": ["web"], "fewest": ["size"], "web_of": ["size"]}),
    (groups, {"sure": ["known", "unknown"], "found": ["web", "known", "unknown"],
              "promised": ["web"], "strangers": ["web"], "friends": ["web"]}),
]

WEB_DOORS = {
    "ties": webs.ties, "turned": webs.turned, "alike": threes.alike, "three": threes.three,
    "found": lambda web: groups.found(web, 1, 1), "promised": groups.promised,
    "strangers": groups.strangers, "friends": groups.friends,
}

MODULES = ("heapq", "math", "itertools", "collections")


def told(value):
    """What a door told, so that it can be compared: an answer's people stand for it."""
    return value.people if isinstance(value, answers.Answer) else value


def package_files():
    folder = os.path.dirname(allknown.__file__)
    return [os.path.join(folder, name) for name in sorted(os.listdir(folder)) if name.endswith(".py")]


class InterfaceTest(unittest.TestCase):
    def test_each_name_is_defined_in_its_file(self):
        for module, names in INTERFACE:
            with open(module.__file__, encoding="ascii") as file:
                tree = ast.parse(file.read())
            defined = {node.name for node in tree.body if isinstance(node, (ast.FunctionDef, ast.ClassDef))}
            self.assertLessEqual(set(names), defined, module.__name__)

    def test_the_arguments_have_their_names(self):
        for module, names in INTERFACE:
            for name, parameters in names.items():
                if parameters is not None:
                    signature = inspect.signature(getattr(module, name))
                    self.assertEqual(list(signature.parameters), parameters, name)

    def test_answers_define_their_methods_themselves(self):
        for kind in (answers.Known, answers.Unknown):
            self.assertIn("shows", vars(kind))
            self.assertEqual(list(inspect.signature(kind.shows).parameters), ["self", "web"])
            self.assertEqual(kind.__bases__, (answers.Answer,))

    def test_errors_stand_straight_under_web_error(self):
        self.assertEqual(WebError.__bases__, (ValueError,))
        for kind in (BadWeb, BadCount, TooFew):
            self.assertEqual(kind.__bases__, (WebError,))

    def test_no_clock_chance_file_or_outside_package(self):
        for path in package_files():
            with open(path, encoding="ascii") as file:
                tree = ast.parse(file.read())
            for node in ast.walk(tree):
                self.assertNotIsInstance(node, ast.Import, path)
                if isinstance(node, ast.ImportFrom):
                    self.assertTrue(node.module.startswith("allknown.") or node.module in MODULES, path)
                if isinstance(node, ast.Name):
                    self.assertNotIn(node.id, ("open", "input", "print", "eval", "exec"), path)


class WebDoorsTest(unittest.TestCase):
    def test_what_is_no_web_is_refused(self):
        for door, ask in WEB_DOORS.items():
            for why, web in helper.no_webs().items():
                with self.subTest(door=door, why=why), self.assertRaises(WebError) as caught:
                    ask(web)
                self.assertIs(type(caught.exception), BadWeb, (door, why))

    def test_each_row_and_sign_is_looked_at(self):
        for door, ask in WEB_DOORS.items():
            for one in range(4):
                for other in range(4):
                    rows = [list(row) for row in helper.chance_web(4, 50, 1)]
                    rows[one][other] = "x" if rows[one][other] == "-" else "-"
                    with self.subTest(door=door, one=one, other=other), self.assertRaises(BadWeb):
                        ask(["".join(row) for row in rows])

    def test_what_is_refused_stays_as_it_was(self):
        for door, ask in WEB_DOORS.items():
            for why, web in helper.no_webs().items():
                if isinstance(web, list):
                    before = copy.deepcopy(web)
                    self.assertRaises(BadWeb, ask, web)
                    self.assertEqual(web, before, (door, why))

    def test_webs_of_every_size_up_to_200_are_taken(self):
        for door, ask in WEB_DOORS.items():
            for size in (1, 2, 3, 199, 200):
                for web in (["-" * size] * size, helper.turned_plainly(["-" * size] * size)):
                    with self.subTest(door=door, size=size):
                        ask(web)

    def test_nobody_is_a_web(self):
        for door, ask in WEB_DOORS.items():
            if door != "found":
                with self.subTest(door=door):
                    ask([])

    def test_texts_of_a_class_of_its_own_are_texts(self):
        for door, ask in WEB_DOORS.items():
            web = helper.ring(5)
            self.assertEqual(told(ask([helper.Text(row) for row in web])), told(ask(web)), door)

    def test_a_web_that_is_handed_in_stays_as_it_was(self):
        for door, ask in WEB_DOORS.items():
            for web in helper.sample_webs(9):
                before = list(web)
                ask(web)
                self.assertEqual(web, before, door)

    def test_what_is_told_may_be_changed_without_a_later_answer_changing(self):
        for door, ask in WEB_DOORS.items():
            for web in helper.sample_webs(9):
                first = told(ask(web))
                before = copy.copy(first)
                if isinstance(first, list):
                    first.append(first)
                    first.reverse()
                self.assertEqual(told(ask(web)), before, door)

    def test_a_web_may_be_changed_without_what_was_told_changing(self):
        for door, ask in WEB_DOORS.items():
            for web in helper.sample_webs(9):
                first = told(ask(web))
                before = copy.copy(first)
                web.clear()
                self.assertEqual(first, before, door)

    def test_a_changed_web_is_asked_anew(self):
        for door, ask in WEB_DOORS.items():
            web = ["-" * 7] * 7
            ask(web)
            web[:] = helper.star(8)
            self.assertEqual(told(ask(web)), told(ask(helper.star(8))), door)


if __name__ == "__main__":
    unittest.main()
