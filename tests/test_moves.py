"""[6]: plans that give the same with less to do, move by move."""

import random
import unittest

from streamstack.bags import Bag, same_bags
from streamstack.errors import QueryError
from streamstack.moves import all_of, improved, moved
from streamstack.plans import Sources, count_plans, given, shape_of
from streamstack.queries import parse_query
from streamstack.rows import Shape

S, R = ("source", "s"), ("source", "r")
SOURCES = Sources((("s", Shape((("a", "int"), ("b", "int"), ("t", "text")))),
                   ("r", Shape((("c", "int"), ("d", "int"), ("u", "text"))))))


def column(name):
    return ("column", name)


def test(name, sign, number):
    return ("test", sign, column(name), ("int", number))


def both_of(one, other):
    return ("link", "and", one, other)


A, B, C, D = test("a", ">", 1), test("b", "<", 2), test("c", "=", 3), test("d", "<>", 4)
A_IS_C = ("test", "=", column("a"), column("c"))
MEET = ("meet", (("b", "d"),), S, R)


class EachMove(unittest.TestCase):
    def check(self, plan, wanted):
        self.assertEqual(moved(plan, SOURCES), wanted)
        self.assertEqual(shape_of(wanted, SOURCES).columns, shape_of(plan, SOURCES).columns)

    def test_where_over_where_is_one_the_inner_truth_first(self):
        self.check(("where", A, ("where", B, S)), ("where", both_of(B, A), S))
        self.check(("where", A, ("where", B, ("where", test("b", ">", 7), S))),
                   ("where", both_of(both_of(test("b", ">", 7), B), A), S))

    def test_where_over_once_goes_within(self):
        self.check(("where", A, ("once", S)), ("once", ("where", A, S)))

    def test_where_over_both_and_without_goes_into_both_with_names_by_places(self):
        for word in ("both", "without"):
            with self.subTest(word=word):
                self.check(("where", both_of(A, B), (word, S, R)),
                           (word, ("where", both_of(A, B), S),
                            ("where", both_of(test("c", ">", 1), test("d", "<", 2)), R)))
                self.check(("where", A, (word, S, S)), (word, ("where", A, S), ("where", A, S)))

    def test_names_that_stand_at_other_places_on_the_other_side(self):
        turned = ("pick", (("b", column("c")), ("a", column("d")), ("t", column("u"))), R)
        found = moved(("where", both_of(A, B), ("both", S, turned)), SOURCES)
        self.assertEqual(found[2], ("where", both_of(test("b", ">", 1), test("a", "<", 2)), turned))

    def test_where_over_a_pick_of_columns_alone_goes_within(self):
        columns = (("x", column("a")), ("a", column("b")), ("y", column("a")))
        truth = both_of(both_of(test("x", ">", 1), test("a", "<", 2)), test("y", "=", 3))
        self.check(("where", truth, ("pick", columns, S)),
                   ("pick", columns, ("where", both_of(both_of(A, B), test("a", "=", 3)), S)))

    def test_where_over_a_pick_with_a_term_stays(self):
        for term in (("sum", "+", column("b"), ("int", 1)), ("int", 3), ("length", column("t"))):
            plan = ("where", A, ("pick", (("a", column("a")), ("z", term)), S))
            self.check(plan, plan)

    def test_where_over_a_group_and_a_source_stays(self):
        for inner in (S, ("group", ("a",), (), S), ("group", ("a",), (("n", "count", None),), S)):
            self.check(("where", A, inner), ("where", A, inner))

    def test_where_over_a_meeting_with_truths_of_one_side(self):
        self.check(("where", A, MEET), ("meet", MEET[1], ("where", A, S), R))
        self.check(("where", C, MEET), ("meet", MEET[1], S, ("where", C, R)))
        self.check(("where", both_of(A, B), MEET), ("meet", MEET[1], ("where", both_of(A, B), S), R))

    def test_where_over_a_meeting_with_truths_of_both(self):
        self.check(("where", A_IS_C, MEET), ("where", A_IS_C, MEET))
        either = ("link", "or", A, C)
        self.check(("where", both_of(either, A_IS_C), MEET), ("where", both_of(either, A_IS_C), MEET))
        nested = both_of(either, both_of(A_IS_C, ("not", A_IS_C)))
        self.check(("where", nested, MEET), ("where", nested, MEET))

    def test_where_over_a_meeting_with_all_of_these_in_order(self):
        truth = both_of(both_of(C, A_IS_C), both_of(both_of(A, D), both_of(("not", A_IS_C), B)))
        self.check(("where", truth, MEET),
                   ("where", both_of(A_IS_C, ("not", A_IS_C)),
                    ("meet", MEET[1], ("where", both_of(A, B), S), ("where", both_of(C, D), R))))

    def test_a_truth_without_columns_goes_to_the_first_side(self):
        never = ("test", "=", ("int", 1), ("int", 2))
        self.check(("where", both_of(C, never), MEET), ("meet", MEET[1], ("where", never, S), ("where", C, R)))

    def test_once_over_once_and_over_a_group_is_that(self):
        self.check(("once", ("once", S)), ("once", S))
        self.check(("once", ("once", ("once", S))), ("once", S))
        group = ("group", ("a",), (("n", "count", None),), S)
        self.check(("once", group), group)
        self.check(("once", ("once", group)), group)
        self.check(("once", ("both", S, R)), ("once", ("both", S, R)))

    def test_no_move_fits(self):
        for plan in (S, ("where", A, S), ("once", S), ("both", S, R), ("without", R, S), MEET,
                     ("pick", (("a", column("a")),), ("where", A, S)), ("once", ("where", A, S)),
                     ("group", ("a",), (), ("where", A, ("group", ("a",), (), S)))):
            self.check(plan, plan)
            self.assertEqual(improved(plan, SOURCES), plan)

    def test_moves_are_made_from_within_once_each(self):
        plan = ("where", A, ("once", ("once", ("where", B, ("both", S, R)))))
        within = ("both", ("where", B, S), ("where", test("d", "<", 2), R))
        self.check(plan, ("once", ("where", A, within)))


class AllOf(unittest.TestCase):
    def test_truths_behind_and_in_order(self):
        self.assertEqual(all_of(A), (A,))
        self.assertEqual(all_of(both_of(both_of(A, B), both_of(C, both_of(D, A)))), (A, B, C, D, A))
        either = ("link", "or", both_of(A, B), C)
        self.assertEqual(all_of(both_of(either, ("not", both_of(A, B)))), (either, ("not", both_of(A, B))))


class Improved(unittest.TestCase):
    def test_several_moves_at_once(self):
        plan = parse_query("pick * from (pick once * from (pick a, u from s meet r on b = d)) where a > 1 and u = 'x'")
        inner = ("meet", (("b", "d"),), ("where", A, S),
                 ("where", ("test", "=", column("u"), ("text", "x")), R))
        wanted = ("once", ("pick", (("a", column("a")), ("u", column("u"))), inner))
        self.assertEqual(improved(plan, SOURCES), wanted)

    def test_a_truth_that_goes_far_and_meets_others(self):
        plan = ("where", A, ("once", ("both", ("where", B, S), ("without", S, R))))
        wanted = ("once", ("both", ("where", both_of(B, A), S),
                           ("without", ("where", A, S), ("where", test("c", ">", 1), R))))
        self.assertEqual(improved(plan, SOURCES), wanted)

    def test_a_once_that_a_truth_uncovers(self):
        plan = ("once", ("where", A, ("once", S)))
        self.assertEqual(moved(plan, SOURCES), ("once", ("where", A, S)))
        self.assertEqual(improved(plan, SOURCES), ("once", ("where", A, S)))

    def test_not_more_than_60_parts_come_of_it(self):
        inner = S
        for _ in range(28):
            inner = ("both", inner, S)
        for height, parts in ((0, 58), (1, 59), (2, 60)):
            plan = ("where", A, inner)
            for _ in range(height):
                plan = ("pick", (("a", column("a")), ("b", column("b")), ("t", column("t"))), plan)
            self.assertEqual(count_plans(plan), parts)
            found = improved(plan, SOURCES)
            self.assertEqual(count_plans(found), 60)
            self.assertEqual(found == plan, parts == 60)

    def test_60_parts_that_become_fewer(self):
        plan = S
        for _ in range(59):
            plan = ("once", plan)
        self.assertEqual(improved(plan, SOURCES), ("once", S))
        plan = S
        for _ in range(59):
            plan = ("where", A, plan)
        found = improved(plan, SOURCES)
        self.assertEqual((found[0], found[2], len(all_of(found[1]))), ("where", S, 59))
        plan = S
        for _ in range(29):
            plan = ("where", A, ("once", plan))
        self.assertEqual(count_plans(improved(plan, SOURCES)), 3)

    def test_plans_that_cannot_be(self):
        hidden = ("where", B, ("pick", (("a", column("a")),), S))
        for plan in (("source", "q"), ("where", C, S), ("where", A, ("both", S, ("source", "q"))), hidden,
                     ("where", A, ("meet", (), S, S)), ("once", ("once", ("source", "q")))):
            for call in (improved, moved):
                with self.assertRaises(QueryError):
                    call(plan, SOURCES)


def random_truth(chance):
    names = ("a", "b", "c", "d")
    one = ("test", chance.choice(("=", "<", ">=")), column(chance.choice(names[:2])), ("int", chance.randrange(3)))
    other = ("test", chance.choice(("<>", "<=", ">")), column("a"), column("b"))
    return chance.choice((one, other, both_of(one, other), ("not", one), ("link", "or", one, other)))


def random_plan(chance, depth):
    """Return a plan whose rows are two numbers and a text, named a, b and t."""
    if depth == 0:
        return chance.choice((S, ("pick", (("a", column("c")), ("b", column("d")), ("t", column("u"))), R)))
    inner, other = random_plan(chance, depth - 1), random_plan(chance, depth - 1)
    renamed = ("pick", (("c", column("b")), ("d", column("a")), ("u", column("t"))), other)
    a, b, t = column("a"), column("b"), column("t")
    truth = random_truth(chance)
    crossed = ("where", both_of(truth, both_of(("test", "<", column("c"), ("int", 2)), A_IS_C)),
               ("meet", (("t", "u"),), inner, renamed))
    return chance.choice((
        ("where", truth, inner), ("where", truth, inner), ("where", truth, ("where", random_truth(chance), inner)),
        ("pick", (("a", b), ("b", a), ("t", t)), inner),
        ("pick", (("a", ("sum", "-", a, b)), ("b", b), ("t", t)), inner),
        ("where", truth, ("both", inner, other)), ("where", truth, ("without", inner, renamed)),
        ("once", inner), ("once", ("once", inner)), ("where", truth, ("once", inner)),
        ("pick", (("a", a), ("b", column("d")), ("t", column("u"))), crossed),
        ("where", truth, ("pick", (("a", column("n")), ("b", a), ("t", t)),
                          ("once", ("group", ("a", "t"), (("n", "sum", "b"),), inner)))),
    ))


class Drawn(unittest.TestCase):
    def test_the_improved_plan_gives_the_same_bag_and_has_the_same_shape(self):
        chance = random.Random(6)
        for turn in range(250):
            plan = random_plan(chance, chance.randrange(1, 4))
            bags = {}
            for name in ("s", "r"):
                bags[name] = Bag()
                for _ in range(chance.randrange(9)):
                    row = (chance.randrange(3), chance.randrange(3), chance.choice("xy"))
                    bags[name].add(row, chance.randrange(1, 3))
            wanted = given(plan, bags, SOURCES)
            for call in (moved, improved):
                found = call(plan, SOURCES)
                with self.subTest(turn=turn, plan=plan, found=found):
                    self.assertEqual(shape_of(found, SOURCES).columns, shape_of(plan, SOURCES).columns)
                    self.assertTrue(same_bags(given(found, bags, SOURCES), wanted))
            if count_plans(plan) <= 40:
                self.assertTrue(moved(found, SOURCES) == found or count_plans(moved(found, SOURCES)) > 60)


if __name__ == "__main__":
    unittest.main()
