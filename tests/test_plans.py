"""[5]: plans, their shapes, what they give of whole bags, and plans that cannot be."""

import unittest

from streamstack.bags import Bag
from streamstack.errors import QueryError
from streamstack.plans import (Sources, check_plan, count_plans, given, grouped, made_shape, met, picked, plans_of,
                               shape_of, totals_of)
from streamstack.rows import Shape

S, R = ("source", "s"), ("source", "r")
S_SHAPE = Shape((("a", "int"), ("t", "text")))
R_SHAPE = Shape((("b", "int"), ("u", "text")))
WIDE = Shape(tuple((f"c{n}", "int") for n in range(19)))
SOURCES = Sources((("s", S_SHAPE), ("r", R_SHAPE), ("wide", WIDE)))
A, T, B = ("column", "a"), ("column", "t"), ("column", "b")
POSITIVE = ("test", ">", A, ("int", 0))
BAGS = {"s": Bag((((1, "x"), 2), ((2, "y"), -1), ((0, "x"), 3), ((-4, "z"), 1))),
        "r": Bag((((1, "x"), 3), ((2, "y"), 2), ((0, "x"), 1), ((9, "q"), -2)))}


def weights(plan, bags=None):
    return given(plan, BAGS if bags is None else bags, SOURCES).weights


class Shapes(unittest.TestCase):
    def columns(self, plan):
        return shape_of(plan, SOURCES).columns

    def test_each_kind_of_plan(self):
        self.assertEqual(self.columns(S), S_SHAPE.columns)
        self.assertEqual(self.columns(("where", POSITIVE, S)), S_SHAPE.columns)
        self.assertEqual(self.columns(("pick", (("x", T), ("y", ("sum", "+", A, A))), S)), (("x", "text"), ("y", "int")))
        self.assertEqual(self.columns(("both", S, R)), S_SHAPE.columns)
        self.assertEqual(self.columns(("without", R, S)), R_SHAPE.columns)
        self.assertEqual(self.columns(("once", R)), R_SHAPE.columns)
        self.assertEqual(self.columns(("meet", (("a", "b"), ("t", "u")), S, R)), S_SHAPE.columns + R_SHAPE.columns)
        self.assertEqual(self.columns(("meet", (), S, R)), S_SHAPE.columns + R_SHAPE.columns)
        totals = (("n", "count", None), ("s", "sum", "a"), ("l", "least", "t"), ("g", "greatest", "a"))
        self.assertEqual(self.columns(("group", ("t",), totals, S)),
                         (("t", "text"), ("n", "int"), ("s", "int"), ("l", "text"), ("g", "int")))
        self.assertEqual(self.columns(("group", ("t", "a"), (), S)), (("t", "text"), ("a", "int")))
        self.assertEqual(self.columns(("group", (), (("n", "count", None),), S)), (("n", "int"),))

    def test_plans_that_cannot_be(self):
        wrong = [
            ("source", "q"), ("source", ""), ("order", S), ("", S),
            ("where", A, S), ("where", ("test", "=", B, B), S), ("where", POSITIVE, R),
            ("pick", (), S), ("pick", (("x", POSITIVE),), S), ("pick", (("x", B),), S), ("pick", (("", A),), S),
            ("pick", (("x", A), ("x", T)), S), ("pick", tuple((f"x{n}", A) for n in range(21)), S),
            ("both", S, ("pick", (("a", A),), S)), ("without", S, ("pick", (("t", T), ("a", A)), S)),
            ("both", S, ("source", "q")), ("once", ("source", "q")),
            ("meet", (("b", "a"),), S, R), ("meet", (("a", "c"),), S, R), ("meet", (("a", "u"),), S, R),
            ("meet", (("a", "a"),), S, S), ("meet", (("a", "c0"),), S, ("source", "wide")),
            ("group", (), (), S), ("group", ("b",), (), S), ("group", ("a", "a"), (), S),
            ("group", ("a",), (("a", "count", None),), S), ("group", ("a",), (("", "count", None),), S),
            ("group", (), (("n", "count", "a"),), S), ("group", (), (("n", "sum", None),), S),
            ("group", (), (("n", "least", None),), S), ("group", (), (("n", "greatest", "b"),), S),
            ("group", (), (("n", "sum", "t"),), S), ("group", (), (("n", "middle", "a"),), S),
        ]
        for plan in wrong:
            for whole in (plan, ("once", plan), ("where", POSITIVE, ("both", S, plan))):
                with self.subTest(plan=whole):
                    with self.assertRaises(QueryError):
                        shape_of(whole, SOURCES)
                    with self.assertRaises(QueryError):
                        check_plan(whole, SOURCES)
                    with self.assertRaises(QueryError):
                        given(whole, BAGS, SOURCES)

    def test_twenty_columns_of_both(self):
        one = ("pick", (("a", A),), S)
        self.assertEqual(len(self.columns(("meet", (("a", "c0"),), one, ("source", "wide")))), 20)

    def test_made_shape(self):
        self.assertEqual(made_shape((("a", "int"),)).columns, (("a", "int"),))
        for columns in ((("a", "int"), ("a", "int")), (("a", "truth"),), (("", "int"),),
                        tuple((f"c{n}", "int") for n in range(21))):
            with self.assertRaises(QueryError):
                made_shape(columns)

    def test_sources(self):
        self.assertEqual(sorted(SOURCES.shapes), ["r", "s", "wide"])
        self.assertIs(SOURCES.shapes["s"], S_SHAPE)


class Parts(unittest.TestCase):
    def test_plans_within(self):
        told = {S: (), ("where", POSITIVE, S): (S,), ("pick", (("a", A),), R): (R,), ("both", S, R): (S, R),
                ("without", R, S): (R, S), ("once", S): (S,), ("meet", (("a", "b"),), S, R): (S, R),
                ("group", ("a",), (), S): (S,)}
        for plan, inner in told.items():
            self.assertEqual(plans_of(plan), inner)
            self.assertEqual(count_plans(plan), 1 + len(inner))

    def test_60_parts_and_61(self):
        plan = S
        for _ in range(58):
            plan = ("once", plan)
        self.assertEqual(count_plans(plan), 59)
        self.assertEqual(check_plan(("once", plan), SOURCES).columns, S_SHAPE.columns)
        both = ("both", plan, R)
        self.assertEqual(count_plans(both), 61)
        for longer in (both, ("once", ("once", plan))):
            with self.assertRaises(QueryError):
                check_plan(longer, SOURCES)
            self.assertEqual(shape_of(longer, SOURCES).columns, S_SHAPE.columns)
            given(longer, BAGS, SOURCES)


class Given(unittest.TestCase):
    def test_a_source_is_a_copy(self):
        bag = given(S, BAGS, SOURCES)
        self.assertEqual(bag.weights, BAGS["s"].weights)
        bag.add((77, "x"))
        self.assertEqual(BAGS["s"].weight((77, "x")), 0)

    def test_where_and_pick_keep_weights(self):
        self.assertEqual(weights(("where", POSITIVE, S)), {(1, "x"): 2, (2, "y"): -1})
        self.assertEqual(weights(("pick", (("t", T),), S)), {("x",): 5, ("y",): -1, ("z",): 1})
        self.assertEqual(weights(("pick", (("n", ("int", 7)),), S)), {(7,): 5})
        cancels = {"s": Bag((((1, "x"), 2), ((2, "x"), -2)))}
        self.assertEqual(weights(("pick", (("t", T),), S), cancels), {})

    def test_both_adds(self):
        self.assertEqual(weights(("both", S, R)),
                         {(1, "x"): 5, (2, "y"): 1, (0, "x"): 4, (-4, "z"): 1, (9, "q"): -2})

    def test_without_takes_away_but_not_below_0(self):
        self.assertEqual(weights(("without", S, R)), {(0, "x"): 2, (-4, "z"): 1, (9, "q"): 2})
        self.assertEqual(weights(("without", R, S)), {(1, "x"): 1, (2, "y"): 3})

    def test_once(self):
        self.assertEqual(weights(("once", S)), {(1, "x"): 1, (0, "x"): 1, (-4, "z"): 1})

    def test_meeting_rows_multiply(self):
        self.assertEqual(weights(("meet", (("a", "b"),), S, R)),
                         {(1, "x", 1, "x"): 6, (2, "y", 2, "y"): -2, (0, "x", 0, "x"): 3})
        self.assertEqual(weights(("meet", (("t", "u"),), S, R)),
                         {(1, "x", 1, "x"): 6, (1, "x", 0, "x"): 2, (0, "x", 1, "x"): 9, (0, "x", 0, "x"): 3,
                          (2, "y", 2, "y"): -2})
        self.assertEqual(weights(("meet", (("t", "u"), ("a", "b")), S, R)),
                         {(1, "x", 1, "x"): 6, (2, "y", 2, "y"): -2, (0, "x", 0, "x"): 3})
        few = {"s": Bag((((1, "x"), 2),)), "r": Bag((((5, "y"), -3), ((6, "z"), 1)))}
        self.assertEqual(weights(("meet", (), S, R), few), {(1, "x", 5, "y"): -6, (1, "x", 6, "z"): 2})

    def test_groups_are_of_rows_above_0(self):
        totals = (("n", "count", None), ("m", "sum", "a"), ("l", "least", "a"), ("g", "greatest", "t"))
        self.assertEqual(weights(("group", ("t",), totals, S)), {("x", 5, 2, 0, "x"): 1, ("z", 1, -4, -4, "z"): 1})
        self.assertEqual(weights(("group", ("t",), (), S)), {("x",): 1, ("z",): 1})
        self.assertEqual(weights(("group", (), totals, S)), {(6, -2, -4, "z"): 1})

    def test_groups_of_no_names_and_no_rows(self):
        count = ("group", (), (("n", "count", None),), S)
        self.assertEqual(weights(count), {(6,): 1})
        self.assertEqual(weights(count, {"s": Bag()}), {})
        self.assertEqual(weights(count, {"s": Bag((((1, "x"), -3),))}), {})
        self.assertEqual(weights(("group", ("a",), (("n", "count", None),), S), {"s": Bag()}), {})

    def test_totals_do_not_wrap(self):
        bags = {"s": Bag((((2 ** 62, "x"), 4), ((1, "x"), 2 ** 64)))}
        totals = (("n", "count", None), ("m", "sum", "a"))
        self.assertEqual(weights(("group", (), totals, S), bags), {(2 ** 64 + 4, 2 ** 65): 1})
        wraps = ("pick", (("m", ("sum", "*", A, ("int", 2))),), S)
        self.assertEqual(weights(wraps, {"s": Bag((((2 ** 62, "x"), 1),))}), {(-2 ** 63,): 1})

    def test_plans_within_plans(self):
        plan = ("pick", (("n", ("column", "n")),),
                ("group", ("u",), (("n", "count", None),),
                 ("meet", (("a", "b"),), ("where", POSITIVE, ("once", S)), R)))
        self.assertEqual(weights(plan), {(3,): 1})

    def test_the_bags_stay_as_they_were(self):
        before = {name: dict(bag.weights) for name, bag in BAGS.items()}
        for plan in (("without", S, R), ("once", S), ("meet", (("a", "b"),), S, R), ("both", S, R)):
            given(plan, BAGS, SOURCES)
        self.assertEqual({name: bag.weights for name, bag in BAGS.items()}, before)


class Pieces(unittest.TestCase):
    def test_picked(self):
        row = picked((("x", T), ("y", ("sum", "-", A, ("int", 1))), ("z", A)), (5, "q"), S_SHAPE)
        self.assertEqual(row, ("q", 4, 5))
        self.assertEqual(picked((), (5, "q"), S_SHAPE), ())

    def test_met(self):
        bag = met((("a", "b"),), [BAGS["s"], BAGS["r"]], S_SHAPE, R_SHAPE)
        self.assertEqual(bag.weights, {(1, "x", 1, "x"): 6, (2, "y", 2, "y"): -2, (0, "x", 0, "x"): 3})

    def test_grouped(self):
        plan = ("group", ("t",), (("n", "count", None),), S)
        self.assertEqual(grouped(plan, BAGS["s"], S_SHAPE).weights, {("x", 5): 1, ("z", 1): 1})
        self.assertEqual(grouped(plan, Bag(), S_SHAPE).weights, {})

    def test_totals_of(self):
        totals = (("l", "least", "t"), ("n", "count", None), ("g", "greatest", "a"), ("m", "sum", "a"))
        rows = (((3, "b"), 2), ((-1, "a"), 3), ((0, "c"), 1))
        self.assertEqual(totals_of(totals, rows, S_SHAPE), ("a", 6, 3, 3))
        self.assertEqual(totals_of((), rows, S_SHAPE), ())


if __name__ == "__main__":
    unittest.main()
