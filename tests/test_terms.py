"""[3]: kinds and values of terms, the names of columns in them, terms with other names."""

import unittest

from streamstack.errors import QueryError
from streamstack.rows import Shape
from streamstack.terms import columns_of, kind_of_term, parts_of, renamed_term, summed, tested, value_of

SHAPE = Shape((("a", "int"), ("b", "int"), ("t", "text"), ("u", "text")))
A, B, T, U = [("column", name) for name in "abtu"]
ROW = (7, -2, "abc", "b")
LEAST, GREATEST = -2 ** 63, 2 ** 63 - 1


def compared(sign, one, other):
    return ("test", sign, one, other)


TRUE, FALSE = compared("=", ("int", 1), ("int", 1)), compared("<>", ("int", 1), ("int", 1))

GOOD = (
    (A, "int", 7),
    (T, "text", "abc"),
    (("int", -3), "int", -3),
    (("text", ""), "text", ""),
    (("sum", "+", A, B), "int", 5),
    (("sum", "-", A, B), "int", 9),
    (("sum", "*", A, B), "int", -14),
    (("sum", "/", A, B), "int", -4),
    (("sum", "/", A, ("int", 0)), "int", 0),
    (compared("=", A, ("int", 7)), "truth", True),
    (compared("<>", T, U), "truth", True),
    (compared("<", T, U), "truth", True),
    (("link", "and", TRUE, FALSE), "truth", False),
    (("link", "or", FALSE, TRUE), "truth", True),
    (("not", FALSE), "truth", True),
    (("length", T), "int", 3),
    (("length", ("text", "")), "int", 0),
    (("join", T, U), "text", "abcb"),
    (("if", TRUE, A, B), "int", 7),
    (("if", FALSE, T, U), "text", "b"),
    (("if", TRUE, FALSE, TRUE), "truth", False),
)

BAD = (
    ("column", "x"), ("column", ""),
    ("sum", "+", A, T), ("sum", "+", T, A), ("sum", "-", TRUE, A), ("sum", "&", A, B), ("sum", "=", A, B),
    compared("=", A, T), compared("<", T, A), compared("=", TRUE, TRUE), compared("=", TRUE, A), compared("+", A, B), compared("==", A, B),
    ("link", "and", A, TRUE), ("link", "or", TRUE, T), ("link", "xor", TRUE, TRUE),
    ("not", A), ("not", T), ("length", A), ("length", TRUE), ("join", A, T), ("join", T, A), ("join", TRUE, TRUE),
    ("if", A, A, B), ("if", TRUE, A, T), ("if", TRUE, TRUE, A), ("minus", A, B), ("", A),
    ("sum", "+", A, ("sum", "*", B, ("column", "x"))), ("not", ("not", ("length", A))),
)


class Kinds(unittest.TestCase):
    def test_each_kind_of_term(self):
        for term, kind, _ in GOOD:
            with self.subTest(term=term):
                self.assertEqual(kind_of_term(term, SHAPE), kind)

    def test_terms_whose_parts_do_not_fit(self):
        for term in BAD:
            with self.subTest(term=term), self.assertRaises(QueryError):
                kind_of_term(term, SHAPE)


class Values(unittest.TestCase):
    def test_each_kind_of_term(self):
        for term, _, value in GOOD:
            with self.subTest(term=term):
                found = value_of(term, ROW, SHAPE)
                self.assertEqual(found, value)
                self.assertIs(type(found), type(value))

    def test_links(self):
        for word, told in (("and", [True, False, False, False]), ("or", [True, True, True, False])):
            found = [value_of(("link", word, one, other), ROW, SHAPE) for one in (TRUE, FALSE)
                     for other in (TRUE, FALSE)]
            self.assertEqual(found, told)
        self.assertEqual(value_of(("not", TRUE), ROW, SHAPE), False)

    def test_sums_wrap_at_both_ends(self):
        self.assertEqual(summed("+", GREATEST, 1), LEAST)
        self.assertEqual(summed("+", GREATEST, 0), GREATEST)
        self.assertEqual(summed("-", LEAST, 1), GREATEST)
        self.assertEqual(summed("-", LEAST, 0), LEAST)
        self.assertEqual(summed("*", 2 ** 62, 2), LEAST)
        self.assertEqual(summed("*", 2 ** 62, 4), 0)
        self.assertEqual(summed("*", LEAST, -1), LEAST)
        self.assertEqual(summed("/", LEAST, -1), LEAST)
        self.assertEqual(summed("*", 10 ** 18, 10 ** 18), (10 ** 36 + 2 ** 63) % 2 ** 64 - 2 ** 63)
        self.assertEqual(value_of(("sum", "+", A, A), (2 ** 62,), Shape((("a", "int"),))), LEAST)

    def test_values_that_are_no_sums_do_not_wrap(self):
        self.assertEqual(value_of(A, (2 ** 70, 0, "", ""), SHAPE), 2 ** 70)

    def test_parting_rounds_down_and_by_0_gives_0(self):
        told = {(7, 2): 3, (-7, 2): -4, (7, -2): -4, (-7, -2): 3, (6, 3): 2, (-6, 3): -2, (1, 5): 0, (-1, 5): -1,
                (5, 0): 0, (-5, 0): 0, (0, 0): 0, (LEAST, 0): 0}
        for (one, other), part in told.items():
            self.assertEqual(summed("/", one, other), part, (one, other))

    def test_comparisons(self):
        told = {"=": (False, True, False), "<>": (True, False, True), "<": (True, False, False),
                "<=": (True, True, False), ">": (False, False, True), ">=": (False, True, True)}
        for sign, holds in told.items():
            self.assertEqual((tested(sign, 9, 10), tested(sign, 10, 10), tested(sign, 10, 9)), holds)
            self.assertEqual((tested(sign, "10", "9"), tested(sign, "9", "9"), tested(sign, "9", "10")), holds)
            self.assertEqual((tested(sign, "B", "a"), tested(sign, "", ""), tested(sign, "aa", "a")), holds)


class Names(unittest.TestCase):
    def test_parts_stand_in_order(self):
        self.assertEqual(parts_of(A), ())
        self.assertEqual(parts_of(("int", 1)), ())
        self.assertEqual(parts_of(("text", "x")), ())
        self.assertEqual(parts_of(("sum", "-", A, B)), (A, B))
        self.assertEqual(parts_of(compared("<", B, A)), (B, A))
        self.assertEqual(parts_of(("link", "or", TRUE, FALSE)), (TRUE, FALSE))
        self.assertEqual(parts_of(("not", TRUE)), (TRUE,))
        self.assertEqual(parts_of(("length", T)), (T,))
        self.assertEqual(parts_of(("join", T, U)), (T, U))
        self.assertEqual(parts_of(("if", TRUE, A, B)), (TRUE, A, B))

    def test_columns_once_and_in_order(self):
        term = ("if", compared("<", B, ("length", U)), ("sum", "+", A, B), ("sum", "*", ("int", 2), ("length", T)))
        self.assertEqual(columns_of(term), ("b", "u", "a", "t"))
        self.assertEqual(columns_of(("int", 1)), ())
        self.assertEqual(columns_of(("not", compared("=", T, ("join", T, T)))), ("t",))

    def test_other_names(self):
        term = ("if", compared("<", B, ("length", U)), ("sum", "+", A, B), ("sum", "-", ("int", 0), A))
        fresh = ("if", compared("<", A, ("length", U)), ("sum", "+", ("column", "z"), A),
                 ("sum", "-", ("int", 0), ("column", "z")))
        self.assertEqual(renamed_term(term, {"a": "z", "b": "a", "q": "r"}), fresh)
        self.assertEqual(renamed_term(term, {}), term)
        self.assertEqual(renamed_term(("text", "a"), {"a": "b"}), ("text", "a"))

    def test_long_terms_can_be_reckoned(self):
        term = A
        for _ in range(149):
            term = ("sum", "+", term, ("int", 1))
        self.assertEqual(kind_of_term(term, SHAPE), "int")
        self.assertEqual(value_of(term, ROW, SHAPE), 156)
        self.assertEqual(columns_of(renamed_term(term, {"a": "c"})), ("c",))


if __name__ == "__main__":
    unittest.main()
