"""The names, arguments, defaults and fields that the interface lists."""

import ast
import importlib
import inspect
import unittest

from streamstack.bags import Bag
from streamstack.feeds import Feed, Follower
from streamstack.orders import Guess
from streamstack.plans import Sources
from streamstack.rows import ByteReader, Shape
from streamstack.views import View

FUNCTIONS = {
    "rows": ["kind_of(value)", "natural_bytes(number)", "row_bytes(row)", "read_row(data)", "hash_of(row)"],
    "bags": ["value_rank(value)", "row_rank(row)", "same_bags(one, other)"],
    "terms": ["kind_of_term(term, shape)", "parts_of(term)", "columns_of(term)", "renamed_term(term, names)",
              "value_of(term, row, shape)", "summed(sign, one, other)", "tested(sign, one, other)"],
    "plans": ["shape_of(plan, sources)", "made_shape(columns)", "check_plan(plan, sources)", "count_plans(plan)",
              "plans_of(plan)", "given(plan, bags, sources)", "picked(columns, row, shape)",
              "met(pairs, bags, one, other)", "grouped(plan, bag, shape)", "totals_of(totals, rows, shape)"],
    "orders": ["meeting_rows(guess, names, pairs)", "cost_of(guess, order, pairs)",
               "best_order(guess, names, pairs)", "plan_of(order, pairs)", "used_columns(terms)"],
    "views": [],
    "feeds": [],
    "queries": ["tokens_of(text)", "parse_query(text)", "parse_term(text)"],
    "errors": [],
}

CLASSES = {
    "rows": {"Shape": ["__init__(self, columns)", "place_of(self, name)", "kinds(self)", "check_row(self, row)"],
             "ByteReader": ["__init__(self, data)", "byte(self)", "row(self)"]},
    "bags": {"Bag": ["__init__(self, rows=())", "add(self, row, weight=1)", "weight(self, row)", "rows(self)",
                     "plus(self, other)", "times(self, number)", "minus(self, other)", "once(self)",
                     "is_set(self)", "spread(self)"]},
    "plans": {"Sources": ["__init__(self, shapes)"]},
    "orders": {"Guess": ["__init__(self, rows, different)", "values(self, source, column)"]},
    "views": {"View": ["__init__(self, plan, sources)", "change(self, changes)"]},
    "feeds": {"Feed": ["__init__(self, view)", "change(self, changes)", "ask(self, number)"],
              "Follower": ["__init__(self)", "take(self, told)"]},
    "errors": {name: [] for name in ("StreamError", "RowError", "QueryError", "LogError", "GroupError", "JobError",
                                     "SnapshotError")},
}

CONSTANTS = {
    ("rows", "KINDS"): ("int", "text"),
    ("rows", "LETTERS"): "\n" + "".join(chr(n) for n in range(32, 127) if n != 37),
    ("terms", "SUMS"): ("+", "-", "*", "/"),
    ("terms", "TESTS"): ("=", "<>", "<", "<=", ">", ">="),
    ("plans", "TOTALS"): ("count", "sum", "least", "greatest"),
    ("feeds", "MOST_KEPT"): 20,
}


def module(name):
    return importlib.import_module("streamstack." + name)


def top_level(name):
    """Return the names of functions and classes that a module's file defines itself."""
    with open(module(name).__file__, encoding="utf-8") as file:
        tree = ast.parse(file.read())
    return {node.name for node in tree.body if isinstance(node, (ast.FunctionDef, ast.ClassDef))}


class Interface(unittest.TestCase):
    def test_functions_stand_in_their_files_with_their_arguments(self):
        for name, told in FUNCTIONS.items():
            for line in told:
                function = line.split("(")[0]
                with self.subTest(module=name, function=function):
                    self.assertIn(function, top_level(name))
                    found = getattr(module(name), function)
                    self.assertEqual(function + str(inspect.signature(found)), line)

    def test_classes_define_their_methods_themselves(self):
        for name, classes in CLASSES.items():
            for class_name, methods in classes.items():
                self.assertIn(class_name, top_level(name))
                own = vars(getattr(module(name), class_name))
                for line in methods:
                    method = line.split("(")[0]
                    with self.subTest(module=name, of=class_name, method=method):
                        self.assertEqual(method + str(inspect.signature(own[method])), line)

    def test_constants(self):
        for (name, constant), value in CONSTANTS.items():
            self.assertEqual(getattr(module(name), constant), value)
            self.assertIs(type(getattr(module(name), constant)), type(value))

    def test_fields_are_there_from_the_beginning(self):
        shape = Shape((("a", "int"), ("b", "text")))
        self.assertEqual(shape.columns, (("a", "int"), ("b", "text")))
        reader = ByteReader((1, 2))
        self.assertEqual((reader.place, reader.data), (0, (1, 2)))
        self.assertEqual(Bag().weights, {})
        sources = Sources((("s", shape),))
        self.assertEqual(sources.shapes, {"s": shape})
        view = View(("source", "s"), sources)
        self.assertEqual((view.bag.weights, view.plan), ({}, ("source", "s")))
        feed = Feed(view)
        self.assertEqual((feed.number, feed.changes), (0, {}))
        follower = Follower()
        self.assertEqual((follower.number, follower.bag.weights), (0, {}))
        self.assertEqual(Guess({}, {}).values("s", "a"), 1)

    def test_functions_without_a_result_return_none(self):
        view = View(("source", "s"), Sources((("s", Shape((("a", "int"),))),)))
        self.assertIsNone(Bag().add((1,)))
        self.assertIsNone(Feed(view).change({}))


if __name__ == "__main__":
    unittest.main()
