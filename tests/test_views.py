"""[1]: behind each change a view has just what its plan gives of the whole sources."""

import random
import unittest

from streamstack.bags import Bag, same_bags
from streamstack.errors import QueryError
from streamstack.plans import Sources, given, shape_of
from streamstack.queries import parse_query
from streamstack.rows import Shape
from streamstack.views import View

SOURCES = Sources((("s", Shape((("a", "int"), ("b", "int"), ("t", "text")))),
                   ("r", Shape((("c", "int"), ("d", "int"), ("u", "text"))))))
S, R = ("source", "s"), ("source", "r")

QUERIES = (
    "pick * from s",
    "pick * from s where a < b or t = 'x'",
    "pick b, a + b as n, t & '!' as w from s",
    "pick once t from s where a >= 1",
    "pick * from s both pick * from r",
    "pick * from s without pick * from r",
    "pick once * from s without pick once * from r",
    "pick * from s both pick * from s without pick * from r without pick * from r",
    "pick * from s meet r on a = c",
    "pick a, u from s meet r on a = c, t = u where b <> d",
    "pick a, count() as n, sum(b) as m, least(t) as l, greatest(b) as g from s group by a",
    "pick count() as n, sum(b) as m from s",
    "pick a from s group by a",
    "pick t, count() as n from s meet (pick once c, u from r) on a = c group by t",
    "pick n, count() as k from (pick a, count() as n from s group by a) group by n",
    "pick a, b, t from s meet (pick c as e, count() as n from r group by c) on a = e where n > 1",
    "pick * from (pick a from s) meet (pick a as z from s) on a = z",
    "pick once if length(t) = 1 then a else b as n from s both pick c as n from r",
    "pick greatest(n) as g from (pick sum(b) as n from s group by t without pick sum(d) as n from r group by u)",
)


def random_plan(chance, depth):
    """Return a plan of some kind whose rows are a number, a number and a text, named x, y and z."""
    names = (("x", "a"), ("y", "b"), ("z", "t")) if chance.random() < 0.5 else (("x", "c"), ("y", "d"), ("z", "u"))
    if depth == 0:
        source = S if names[0][1] == "a" else R
        return ("pick", tuple((name, ("column", told)) for name, told in names), source)
    inner = random_plan(chance, depth - 1)
    other = random_plan(chance, depth - 1)
    x, y, z = [("column", name) for name in "xyz"]
    totals = (("n", chance.choice(("sum", "least", "greatest")), "y"), ("m", "count", None))
    return chance.choice((
        ("where", ("test", chance.choice(("=", "<", ">=")), x, y), inner),
        ("pick", (("x", y), ("y", ("sum", "-", x, ("int", 1))), ("z", z)), inner),
        ("both", inner, other),
        ("without", inner, other),
        ("once", inner),
        ("pick", (("x", x), ("y", ("column", "q")), ("z", ("column", "r"))),
         ("meet", (("x", "p"),), inner, ("pick", (("p", x), ("q", y), ("r", z)), other))),
        ("pick", (("x", ("column", "n")), ("y", ("column", "m")), ("z", z)),
         ("group", ("z",), totals, inner)),
    ))


def random_changes(chance, whole):
    """Return changes of sources whose rows stay at 0 or above, and bring the whole bags up to them."""
    changes = {}
    for name in chance.sample(("s", "r"), chance.randrange(3)):
        change = Bag()
        for _ in range(chance.randrange(5)):
            known = [row for row, _ in whole[name].plus(change).rows()]
            if known and chance.random() < 0.45:
                row = chance.choice(known)
                change.add(row, -chance.randrange(1, whole[name].plus(change).weight(row) + 1))
            else:
                change.add((chance.randrange(3), chance.randrange(4), chance.choice("xyz")), chance.randrange(1, 4))
        changes[name] = change
        whole[name] = whole[name].plus(change)
    return changes


class MainPromise(unittest.TestCase):
    def follow(self, plan, seed, steps):
        chance = random.Random(seed)
        shape = shape_of(plan, SOURCES)
        view = View(plan, SOURCES)
        whole = {"s": Bag(), "r": Bag()}
        for _ in range(steps):
            before = view.bag
            changes = random_changes(chance, whole)
            change = view.change(changes)
            found = given(plan, whole, SOURCES)
            self.assertTrue(same_bags(view.bag, found), plan)
            self.assertTrue(same_bags(change, found.minus(before)), plan)
            for row, _ in view.bag.rows():
                shape.check_row(row)
        return len(view.bag.weights)

    def test_queries(self):
        many = [self.follow(parse_query(text), seed, 25) for seed, text in enumerate(QUERIES)]
        self.assertGreater(sum(size > 0 for size in many), len(QUERIES) * 2 // 3)

    def test_plans_of_all_kinds(self):
        chance = random.Random(41)
        for seed in range(150):
            self.follow(random_plan(chance, chance.randrange(1, 4)), seed, 12)

    def test_all_rows_away_again(self):
        chance = random.Random(4)
        for text in QUERIES:
            view = View(parse_query(text), SOURCES)
            whole = {"s": Bag(), "r": Bag()}
            for _ in range(8):
                view.change(random_changes(chance, whole))
            view.change({name: whole[name].times(-1) for name in whole})
            self.assertEqual(view.bag.weights, {}, text)


class Views(unittest.TestCase):
    def test_a_fresh_view_has_nothing(self):
        for text in QUERIES:
            plan = parse_query(text)
            view = View(plan, SOURCES)
            self.assertEqual(view.bag.weights, {})
            self.assertEqual(view.plan, plan)
            self.assertEqual(view.change({}).weights, {})
            self.assertEqual(view.change({"s": Bag()}).weights, {})

    def test_plans_that_cannot_be(self):
        deep = S
        for _ in range(60):
            deep = ("once", deep)
        for plan in (("source", "q"), ("where", ("int", 1), S), ("pick", (), S), ("meet", (("a", "u"),), S, R),
                     ("group", (), (), S), deep):
            with self.assertRaises(QueryError):
                View(plan, SOURCES)
        View(deep[1], SOURCES)

    def test_one_change_of_several_sources(self):
        view = View(("meet", (("a", "c"),), S, R), SOURCES)
        change = view.change({"s": Bag((((1, 2, "x"), 2),)), "r": Bag((((1, 5, "y"), 3), ((2, 5, "y"), 1)))})
        self.assertEqual(change.weights, {(1, 2, "x", 1, 5, "y"): 6})
        change = view.change({"s": Bag((((1, 2, "x"), -1),)), "r": Bag((((1, 5, "y"), -1),))})
        self.assertEqual(change.weights, {(1, 2, "x", 1, 5, "y"): -4})
        self.assertEqual(view.bag.weights, {(1, 2, "x", 1, 5, "y"): 2})

    def test_a_group_goes_with_its_last_row(self):
        view = View(parse_query("pick count() as n from s"), SOURCES)
        row = (1, 1, "x")
        self.assertEqual(view.change({"s": Bag(((row, 2),))}).weights, {(2,): 1})
        self.assertEqual(view.change({"s": Bag(((row, -1),))}).weights, {(2,): -1, (1,): 1})
        self.assertEqual(view.change({"s": Bag(((row, -1),))}).weights, {(1,): -1})
        self.assertEqual(view.bag.weights, {})

    def test_nothing_is_shared_with_what_is_handed_in_or_returned(self):
        view = View(S, SOURCES)
        told = Bag((((1, 1, "x"), 1),))
        change = view.change({"s": told})
        held = view.bag
        told.add((2, 2, "y"))
        change.add((3, 3, "z"))
        view.change({"s": Bag((((4, 4, "x"), 1),))})
        self.assertEqual(held.weights, {(1, 1, "x"): 1})
        self.assertEqual(view.bag.weights, {(1, 1, "x"): 1, (4, 4, "x"): 1})


if __name__ == "__main__":
    unittest.main()
