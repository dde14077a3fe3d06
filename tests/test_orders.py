"""[26]: the order in which sources meet."""

import itertools
import random
import unittest

from streamstack.bags import Bag, same_bags
from streamstack.errors import QueryError
from streamstack.orders import Guess, best_order, cost_of, meeting_rows, plan_of, used_columns
from streamstack.plans import Sources, given, shape_of
from streamstack.rows import Shape

ROWS = {"a": 100, "b": 10, "c": 7}
DIFFERENT = {("a", "x"): 5, ("b", "y"): 4, ("b", "z"): 3}
GUESS = Guess(ROWS, DIFFERENT)
PAIRS = ((("a", "x"), ("b", "y")), (("c", "w"), ("b", "z")))


def cheapest(guess, names, pairs):
    """Return (cost, order) by trying all orders."""
    return min((cost_of(guess, order, pairs), order) for order in itertools.permutations(names))


class Guesses(unittest.TestCase):
    def test_values(self):
        self.assertEqual(GUESS.values("a", "x"), 5)
        self.assertEqual(GUESS.values("a", "y"), 100)
        self.assertEqual(GUESS.values("b", "x"), 10)
        self.assertEqual(Guess({"a": 0}, {}).values("a", "x"), 1)
        self.assertEqual(Guess({"a": 0}, {("a", "x"): 9}).values("a", "x"), 9)

    def test_numbers_that_cannot_be(self):
        for rows, different in (({"a": -1}, {}), ({"a": 1}, {("a", "x"): 0}), ({"a": 1}, {("a", "x"): -3})):
            with self.assertRaises(QueryError):
                Guess(rows, different)
        Guess({"a": 0}, {("a", "x"): 1})


class Costs(unittest.TestCase):
    def test_meeting_rows(self):
        self.assertEqual(meeting_rows(GUESS, ("a",), PAIRS), 100)
        self.assertEqual(meeting_rows(GUESS, ("a", "b"), PAIRS), 200)
        self.assertEqual(meeting_rows(GUESS, ("b", "a"), PAIRS), 200)
        self.assertEqual(meeting_rows(GUESS, ("b", "c"), PAIRS), 10)
        self.assertEqual(meeting_rows(GUESS, ("a", "c"), PAIRS), 700)
        self.assertEqual(meeting_rows(GUESS, ("a", "b", "c"), PAIRS), 200)

    def test_rounded_down_at_each_pair(self):
        guess = Guess({"a": 7, "b": 1}, {("a", "x"): 2, ("a", "y"): 3, ("b", "x"): 1, ("b", "y"): 1})
        pairs = ((("a", "x"), ("b", "x")), (("a", "y"), ("b", "y")))
        self.assertEqual(meeting_rows(guess, ("a", "b"), pairs), 1)
        self.assertEqual(meeting_rows(Guess({"a": 0, "b": 5}, {}), ("a", "b"), pairs), 0)

    def test_cost_of_an_order(self):
        self.assertEqual(cost_of(GUESS, ("a",), PAIRS), 0)
        self.assertEqual(cost_of(GUESS, ("a", "b", "c"), PAIRS), 400)
        self.assertEqual(cost_of(GUESS, ("b", "c", "a"), PAIRS), 210)
        self.assertEqual(cost_of(GUESS, ("a", "c", "b"), PAIRS), 900)


class BestOrders(unittest.TestCase):
    def test_one_source(self):
        self.assertEqual(best_order(GUESS, ("a",), PAIRS), (0, ("a",)))

    def test_the_cheapest(self):
        self.assertEqual(best_order(GUESS, ("a", "b", "c"), PAIRS), (210, ("b", "c", "a")))
        self.assertEqual(best_order(GUESS, ("c", "a", "b"), PAIRS), (210, ("b", "c", "a")))

    def test_of_orders_that_cost_the_same_the_least_by_names(self):
        guess = Guess({name: 2 for name in "dcab"}, {})
        self.assertEqual(best_order(guess, ("d", "c", "a", "b"), ()), (28, ("a", "b", "c", "d")))
        self.assertEqual(best_order(guess, ("d", "c"), ()), (4, ("c", "d")))
        nothing = Guess({"b": 5, "a": 5, "c": 0}, {})
        self.assertEqual(best_order(nothing, ("b", "a", "c"), ()), (0, ("a", "c", "b")))

    def test_none_eight_and_nine(self):
        guess = Guess({name: 1 for name in "abcdefghi"}, {})
        self.assertEqual(best_order(guess, tuple("hgfedcba"), ()), (7, tuple("abcdefgh")))
        for names in ((), tuple("abcdefghi")):
            with self.assertRaises(QueryError):
                best_order(guess, names, ())

    def test_it_is_the_best_of_all(self):
        chance = random.Random(11)
        for _ in range(60):
            names = tuple("abcdef"[:chance.randrange(1, 6)])
            guess = Guess({name: chance.randrange(0, 12) for name in names},
                          {(name, column): chance.randrange(1, 6) for name in names for column in "xy"
                           if chance.random() < 0.6})
            places = [(name, column) for name in names for column in "xy"]
            pairs = tuple((one, other) for one, other in itertools.combinations(places, 2)
                          if one[0] != other[0] and chance.random() < 0.3)
            self.assertEqual(best_order(guess, names, pairs), cheapest(guess, names, pairs))


class Plans(unittest.TestCase):
    A, B, C = [("source", name) for name in "abc"]

    def test_the_plan_of_an_order(self):
        self.assertEqual(plan_of(("a",), PAIRS), self.A)
        self.assertEqual(plan_of(("a", "b"), PAIRS), ("meet", (("x", "y"),), self.A, self.B))
        self.assertEqual(plan_of(("b", "c", "a"), PAIRS),
                         ("meet", (("y", "x"),), ("meet", (("z", "w"),), self.B, self.C), self.A))
        self.assertEqual(plan_of(("a", "c", "b"), PAIRS),
                         ("meet", (("x", "y"), ("w", "z")), ("meet", (), self.A, self.C), self.B))

    def test_pairs_stand_in_their_order(self):
        pairs = ((("c", "p"), ("a", "q")), (("a", "x"), ("b", "y")), (("b", "r"), ("c", "s")))
        self.assertEqual(plan_of(("a", "b", "c"), pairs),
                         ("meet", (("q", "p"), ("r", "s")), ("meet", (("x", "y"),), self.A, self.B), self.C))

    def test_all_orders_give_the_same_rows(self):
        sources = Sources((("a", Shape((("x", "int"), ("p", "int")))), ("b", Shape((("y", "int"), ("z", "int")))),
                           ("c", Shape((("w", "int"),)))))
        chance = random.Random(2)
        bags = {"a": Bag([((chance.randrange(3), chance.randrange(3)), 1) for _ in range(6)]),
                "b": Bag([((chance.randrange(3), chance.randrange(3)), 2) for _ in range(6)]),
                "c": Bag([((chance.randrange(3),), 1) for _ in range(3)])}
        found = []
        for order in itertools.permutations("abc"):
            plan = plan_of(order, PAIRS)
            shape_of(plan, sources)
            columns = tuple((name, ("column", name)) for name in "xpyzw")
            found.append(given(("pick", columns, plan), bags, sources))
        self.assertTrue(found[0].weights)
        self.assertTrue(all(same_bags(one, found[0]) for one in found))


class Columns(unittest.TestCase):
    def test_used_columns(self):
        terms = (("sum", "+", ("column", "b"), ("column", "a")), ("int", 3), ("length", ("column", "c")), ("column", "b"))
        self.assertEqual(used_columns(terms), ("b", "a", "c"))
        self.assertEqual(used_columns(()), ())


if __name__ == "__main__":
    unittest.main()
