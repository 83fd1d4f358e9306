"""The interface: each name that the document tells is there, with its arguments, in their order, and their defaults."""

import importlib
import inspect
import unittest

FUNCTIONS = {
    "lots": ["lot_keys(salt)", "place_of(salt, number)", "number_for(salt, place)", "salts_parted(one, other)"],
    "runs": ["run_size(run)", "run_parted(run, many)", "run_joined(one, other)", "run_at(run, index)",
             "run_index(run, place)"],
    "allots": ["allot_new(faces)", "face_at(allot, place)", "allot_changed(allot, shares)", "shares_of(allot)",
               "places_moved(one, other)"],
    "marks": ["is_thing(thing)", "mark_of(marks, name)"],
    "conds": ["cond_holds(groups, cond, marks)", "conds_hold(groups, conds, marks)", "in_group(groups, name, marks)",
              "cond_checked(cond, names)"],
    "words": ["show_cond(cond)", "read_cond(line)"],
    "switches": ["stages_checked(stages)", "share_at(stages, day)", "switch_checked(names, switch)",
                 "decide(groups, switch, day, visitor)"],
    "houses": ["house_checked(house)", "answer(house, day, visitor, name)", "answer_all(house, day, visitor)"],
    "cells": ["switch_marks(groups, switch)", "mark_cells(groups, switch, mark)",
              "cell_of(groups, switch, mark, thing)", "thing_in(groups, switch, mark, cell)"],
    "cases": ["switch_cases(groups, switch, day)", "rule_decides(groups, switch, day, number)",
              "face_counts(groups, switch, day, marks)"],
    "turns": ["switch_turned(groups, one, other, day)", "faces_turned(groups, one, other, day, marks)"],
}

CLASSES = {
    ("books", "Book"): ("()", ["change(deed)", "moment()", "house_at(moment=None)", "deeds_from(first)",
                               "answer_at(day, visitor, name, moment=None)", "since(day, visitor, name)"]),
    ("copies", "Copy"): ("()", ["take(first, deeds)", "moment()", "answer_now(day, visitor, name)"]),
    ("trees", "Tree"): ("(parents)", ["change(deed)", "turn(lost=None)", "depth_of(machine)", "moment_of(machine)",
                                      "answer_of(machine, day, visitor, name)"]),
}


def module_of(name):
    return importlib.import_module(f"flagroll.{name}")


class InterfaceTest(unittest.TestCase):
    def assert_told(self, told, owner):
        name = told.split("(")[0]
        self.assertEqual(name + str(inspect.signature(getattr(owner, name))), told)

    def test_functions(self):
        for module, functions in FUNCTIONS.items():
            for told in functions:
                self.assert_told(told, module_of(module))

    def test_classes(self):
        for (module, name), (made, methods) in CLASSES.items():
            defined = getattr(module_of(module), name)
            self.assertTrue(inspect.isclass(defined))
            self.assertEqual(str(inspect.signature(defined)), made)
            one = defined() if made == "()" else defined([0])
            for told in methods:
                self.assert_told(told, one)

    def test_places(self):
        self.assertEqual(module_of("lots").PLACES, 10007)
        self.assertIs(type(module_of("lots").PLACES), int)

    def test_arguments_by_name(self):
        book = module_of("books").Book()
        self.assertEqual(book.change(deed=("put", "one", "salt", "off", [])), 1)
        self.assertEqual(book.house_at(moment=0), ([], [], []))
        self.assertEqual(book.deeds_from(first=2), [])
        self.assertEqual(book.answer_at(day=0, visitor=(5, []), name="one", moment=1), ("off", ("rest",)))
        tree = module_of("trees").Tree(parents=[0])
        self.assertIsNone(tree.turn(lost=[1]))


if __name__ == "__main__":
    unittest.main()
