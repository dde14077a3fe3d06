"""[4]: texts of queries and terms, and the plans and terms that they are read as."""

import unittest

from streamstack.errors import QueryError
from streamstack.queries import parse_query, parse_term, tokens_of

S, R = ("source", "s"), ("source", "r")
A, B, C, X, Y = [("column", name) for name in "abcxy"]


def sum_of(sign, one, other):
    return ("sum", sign, one, other)


def compared(sign, one, other):
    return ("test", sign, one, other)


def link(word, one, other):
    return ("link", word, one, other)


def less(term):
    return sum_of("-", ("int", 0), term)


def pick(plan, *columns):
    return ("pick", columns, plan)


class Tokens(unittest.TestCase):
    def test_each_kind(self):
        told = [("word", "pick"), ("name", "a_1"), ("sign", "+"), ("int", 20), ("sign", "&"), ("text", "x Y\n!"),
                ("word", "as"), ("name", "picked")]
        self.assertEqual(tokens_of("pick a_1+20&'x Y\n!'as picked"), told)
        self.assertIs(type(tokens_of("")), list)
        self.assertEqual(tokens_of(" \n "), [])

    def test_all_words(self):
        for word in ("pick once from where group by as meet on both without or and not length if then else "
                     "count sum least greatest").split():
            self.assertEqual(tokens_of(word), [("word", word)])
            self.assertEqual(tokens_of(word + "s"), [("name", word + "s")])

    def test_all_signs(self):
        for sign in ("<>", "<=", ">=", "=", "<", ">", "+", "-", "&", "*", "/", "(", ")", ","):
            self.assertEqual(tokens_of(sign), [("sign", sign)])
        self.assertEqual([sign for _, sign in tokens_of("<=>=<><<")], ["<=", ">=", "<>", "<", "<"])
        self.assertEqual([sign for _, sign in tokens_of("< =")], ["<", "="])

    def test_numbers(self):
        self.assertEqual(tokens_of("0 9 10 999999999999999999"),
                         [("int", 0), ("int", 9), ("int", 10), ("int", 999999999999999999)])
        self.assertEqual(tokens_of("a=0"), [("name", "a"), ("sign", "="), ("int", 0)])
        for text in ("1000000000000000000", "00", "01", "007", "a = 00", "0000000000000000000"):
            with self.subTest(text=text), self.assertRaises(QueryError):
                tokens_of(text)

    def test_texts(self):
        self.assertEqual(tokens_of("''"), [("text", "")])
        self.assertEqual(tokens_of("'a''b'"), [("text", "a"), ("text", "b")])
        for text in ("'", "'abc", "'a' 'b", "a = '", "'a%'", "'\u00e9'", "'\t'"):
            with self.subTest(text=text), self.assertRaises(QueryError):
                tokens_of(text)

    def test_signs_that_are_none(self):
        for text in ("A", "aB", "_a", "a.b", "a!", "!=", "\"a\"", "a;b", "a\tb", "%", "#", "\u00e9", "[a]"):
            with self.subTest(text=text), self.assertRaises(QueryError):
                tokens_of(text)


class Terms(unittest.TestCase):
    def test_single_terms(self):
        told = {"a": A, "12": ("int", 12), "'x'": ("text", "x"), "(a)": A, "((a))": A, "-a": less(A),
                "- -5": less(less(("int", 5))), "length(a)": ("length", A), "length ( a & b )": ("length", ("join", A, B)),
                "if a = b then x else y": ("if", compared("=", A, B), X, Y)}
        for text, term in told.items():
            self.assertEqual(parse_term(text), term, text)

    def test_signs_from_the_left(self):
        told = {"a + b - c": sum_of("-", sum_of("+", A, B), C),
                "a - b + c": sum_of("+", sum_of("-", A, B), C),
                "a & b & c": ("join", ("join", A, B), C),
                "a + b & c": ("join", sum_of("+", A, B), C),
                "a * b / c": sum_of("/", sum_of("*", A, B), C),
                "a / b * c": sum_of("*", sum_of("/", A, B), C),
                "a - (b - c)": sum_of("-", A, sum_of("-", B, C)),
                "a or b or c": link("or", link("or", A, B), C),
                "a and b and c": link("and", link("and", A, B), C)}
        for text, term in told.items():
            self.assertEqual(parse_term(text), term, text)

    def test_each_operator_has_its_place(self):
        told = {"a or b and c": link("or", A, link("and", B, C)),
                "a and b or c": link("or", link("and", A, B), C),
                "not a and b": link("and", ("not", A), B),
                "a and not b or c": link("or", link("and", A, ("not", B)), C),
                "not a = b": ("not", compared("=", A, B)),
                "not not a": ("not", ("not", A)),
                "a = b + c": compared("=", A, sum_of("+", B, C)),
                "a & b <> c": compared("<>", ("join", A, B), C),
                "a + b * c": sum_of("+", A, sum_of("*", B, C)),
                "a * b + c": sum_of("+", sum_of("*", A, B), C),
                "a & b * c": ("join", A, sum_of("*", B, C)),
                "a - b / c": sum_of("-", A, sum_of("/", B, C)),
                "-a / b": sum_of("/", less(A), B),
                "a / -b": sum_of("/", A, less(B)),
                "a--b": sum_of("-", A, less(B)),
                "-a + b": sum_of("+", less(A), B),
                "(a or b) and c": link("and", link("or", A, B), C),
                "not (a and b)": ("not", link("and", A, B)),
                "(a + b) * c": sum_of("*", sum_of("+", A, B), C),
                "(a = b) = c": compared("=", compared("=", A, B), C),
                "a < b and c >= x": link("and", compared("<", A, B), compared(">=", C, X))}
        for text, term in told.items():
            self.assertEqual(parse_term(text), term, text)
        for sign in ("=", "<>", "<", "<=", ">", ">="):
            self.assertEqual(parse_term("a" + sign + "b"), compared(sign, A, B))

    def test_if_goes_as_far_as_it_can(self):
        told = {"if a then b else c + 1": ("if", A, B, sum_of("+", C, ("int", 1))),
                "1 + if a then b else c": sum_of("+", ("int", 1), ("if", A, B, C)),
                "(if a then b else c) + 1": sum_of("+", ("if", A, B, C), ("int", 1)),
                "if a or b then x else y": ("if", link("or", A, B), X, Y),
                "if a then if b then x else y else c": ("if", A, ("if", B, X, Y), C),
                "if a then x else if b then y else c": ("if", A, X, ("if", B, Y, C)),
                "if a then x = 1 else b and c": ("if", A, compared("=", X, ("int", 1)), link("and", B, C))}
        for text, term in told.items():
            self.assertEqual(parse_term(text), term, text)

    def test_terms_that_cannot_be_read(self):
        for text in ("", "a b", "a +", "+ a", "a = b = c", "a < b > c", "a = not b", "1 + not a", "(a", "a)", "()",
                     "length a", "length()", "length(a, b)", "if a then b", "if a else b", "if then else", "a and",
                     "or a", "not", "-", "* a", "a as b", "pick", "count()", "sum(a)", "a, b", "12a", "- not a",
                     "a = = b", "a < = b", "a not b", "'a' 'b'"):
            with self.subTest(text=text), self.assertRaises(QueryError):
                parse_term(text)


class Queries(unittest.TestCase):
    def test_columns(self):
        self.assertEqual(parse_query("pick a from s"), pick(S, ("a", A)))
        self.assertEqual(parse_query("pick a, b + 1 as c, a as b from s"),
                         pick(S, ("a", A), ("c", sum_of("+", B, ("int", 1))), ("b", A)))
        self.assertEqual(parse_query("pick (a) as a from s"), pick(S, ("a", A)))
        self.assertEqual(parse_query("pick 'x' as a,-1 as b\nfrom s"), pick(S, ("a", ("text", "x")), ("b", less(("int", 1)))))

    def test_all_columns(self):
        self.assertEqual(parse_query("pick * from s"), S)
        self.assertEqual(parse_query("pick * from s where a = 1"), ("where", compared("=", A, ("int", 1)), S))

    def test_once(self):
        self.assertEqual(parse_query("pick once a from s"), ("once", pick(S, ("a", A))))
        self.assertEqual(parse_query("pick once * from s"), ("once", S))

    def test_where_stands_below_what_is_picked(self):
        self.assertEqual(parse_query("pick once a from s where b = 1 or c = 2"),
                         ("once", pick(("where", link("or", compared("=", B, ("int", 1)), compared("=", C, ("int", 2))), S),
                                       ("a", A))))

    def test_groups(self):
        group = ("group", ("a", "b"), (("n", "count", None), ("m", "sum", "c"), ("l", "least", "c"),
                                       ("g", "greatest", "a")), S)
        columns = [(name, ("column", name)) for name in "anmlg"]
        self.assertEqual(parse_query("pick a, count() as n, sum(c) as m, least(c) as l, greatest(a) as g from s "
                                     "group by a, b"), pick(group, *columns))
        self.assertEqual(parse_query("pick a from s group by a"), pick(("group", ("a",), (), S), ("a", A)))
        self.assertEqual(parse_query("pick a + 1 as x, b from s where c = a group by a, b"),
                         pick(("group", ("a", "b"), (), ("where", compared("=", C, A), S)),
                              ("x", sum_of("+", A, ("int", 1))), ("b", B)))
        self.assertEqual(parse_query("pick once count() as n, n + 1 as x from s group by a"),
                         ("once", pick(("group", ("a",), (("n", "count", None),), S), ("n", ("column", "n")),
                                       ("x", sum_of("+", ("column", "n"), ("int", 1))))))

    def test_totals_without_group_by(self):
        self.assertEqual(parse_query("pick count() as n from s"),
                         pick(("group", (), (("n", "count", None),), S), ("n", ("column", "n"))))
        self.assertEqual(parse_query("pick sum(a) as x, least(b) as y from s where a = b"),
                         pick(("group", (), (("x", "sum", "a"), ("y", "least", "b")),
                               ("where", compared("=", A, B), S)), ("x", X), ("y", Y)))

    def test_sources_meet_from_the_left(self):
        self.assertEqual(parse_query("pick * from s meet r on a = b"), ("meet", (("a", "b"),), S, R))
        self.assertEqual(parse_query("pick a from s meet r on a = x, b = y meet t on c = d where a = 1"),
                         pick(("where", compared("=", A, ("int", 1)),
                               ("meet", (("c", "d"),), ("meet", (("a", "x"), ("b", "y")), S, R), ("source", "t"))),
                              ("a", A)))

    def test_queries_in_brackets(self):
        self.assertEqual(parse_query("pick a from (pick b as a from s)"), pick(pick(S, ("a", B)), ("a", A)))
        self.assertEqual(parse_query("pick * from (pick * from s both pick * from r)"), ("both", S, R))
        self.assertEqual(parse_query("pick * from s meet (pick once * from r) on a = b meet ((pick * from s)) on x = y"
                                     .replace("((pick * from s))", "(pick * from (pick * from s))")),
                         ("meet", (("x", "y"),), ("meet", (("a", "b"),), S, ("once", R)), S))

    def test_both_and_without_from_the_left(self):
        t = ("source", "t")
        self.assertEqual(parse_query("pick * from s both pick * from r"), ("both", S, R))
        self.assertEqual(parse_query("pick * from s without pick * from r"), ("without", S, R))
        self.assertEqual(parse_query("pick * from s without pick * from r both pick * from t"),
                         ("both", ("without", S, R), t))
        self.assertEqual(parse_query("pick * from s both pick * from r without pick * from t"),
                         ("without", ("both", S, R), t))
        self.assertEqual(parse_query("pick once a from s where a = 1 both pick a from r group by a"),
                         ("both", ("once", pick(("where", compared("=", A, ("int", 1)), S), ("a", A))),
                          pick(("group", ("a",), (), R), ("a", A))))

    def test_texts_that_cannot_be_read(self):
        for text in ("", "pick", "pick a", "pick from s", "pick a from", "pick a from s where", "a from s",
                     "pick a b from s", "pick a, from s", "pick a + 1 from s", "pick (a) from s", "pick 1 from s",
                     "pick a as 1 from s", "pick a as from s", "pick a as pick from s", "pick *, a from s",
                     "pick a, * from s", "pick * from s group by a", "pick * from s r", "pick a from s, r",
                     "pick a from s meet r", "pick a from s meet r on", "pick a from s meet r on a",
                     "pick a from s meet r on a = 1", "pick a from s meet r on a < b", "pick a from s on a = b",
                     "pick a from s meet r on a = b,", "pick a from s group a", "pick a from s group by",
                     "pick a from s group by a,", "pick a from s group by a + 1", "pick a from s group by a where a = 1",
                     "pick count() from s", "pick count(a) as n from s", "pick sum() as n from s",
                     "pick sum(a + 1) as n from s", "pick sum(a, b) as n from s", "pick count() + 1 as n from s",
                     "pick sum a as n from s", "pick count as n from s", "pick n from (s)", "pick n from ()",
                     "pick n from (pick n from s", "pick n from s)", "pick once once a from s", "once pick a from s",
                     "pick a from s both", "pick a from s both s", "both pick a from s", "pick a from 's'",
                     "(pick a from s)", "pick a from s both (pick a from r)", "pick a from s where a = 1 where b = 1",
                     "pick a from s group by a group by a", "Pick a from s", "pick a from s;", "pick a from s 'x",
                     "pick length(a) from s", "pick a from (s meet r on a = b)", "pick a from s where (a = 1"):
            with self.subTest(text=text), self.assertRaises(QueryError):
                parse_query(text)


class Limits(unittest.TestCase):
    def test_300_tokens_and_301(self):
        term = " + ".join(["1"] * 148)
        query = f"pick {term} as a from s"
        self.assertEqual(len(tokens_of(query)), 300)
        self.assertEqual(parse_query(query)[0], "pick")
        longer = f"pick once {term} as a from s"
        self.assertEqual(len(tokens_of(longer)), 301)
        with self.assertRaises(QueryError):
            parse_query(longer)

    def test_terms_have_the_same_limit(self):
        longest = "-" + " + ".join(["1"] * 150)
        self.assertEqual(len(tokens_of(longest)), 300)
        self.assertEqual(parse_term(longest)[0], "sum")
        with self.assertRaises(QueryError):
            parse_term("-" + longest)

    def test_depths_of_30_and_31(self):
        shapes = {"brackets": ("(", ")"), "nots": ("not ", ""), "minus": ("-", ""), "length": ("length(", ")"),
                  "if ahead": ("if ", " then a else b"), "if within": ("if a then ", " else b"),
                  "if behind": ("if a then b else ", "")}
        for name, (ahead, behind) in shapes.items():
            with self.subTest(of=name):
                parse_term(ahead * 30 + "a" + behind * 30)
                with self.assertRaises(QueryError):
                    parse_term(ahead * 31 + "a" + behind * 31)

    def test_kinds_of_depth_add_up(self):
        def nested(many):
            ahead, behind = "", ""
            for at in range(many):
                one, other = [("(", ")"), ("if a then ", " else b"), ("(not ", ")"), ("-(", ")")][at % 4]
                ahead, behind = ahead + one, other + behind
            return ahead + "a" + behind
        # A turn of four is one bracket, one if, a bracket and a not, and a minus and a bracket: six.
        parse_term(nested(20))
        with self.assertRaises(QueryError):
            parse_term(nested(21))

    def test_what_stands_side_by_side_is_not_deep(self):
        parse_term(" + ".join(["(-a)"] * 50))
        parse_term(" - ".join(["a"] * 100))
        parse_term(" and ".join(["not a"] * 80))
        parse_term(" + ".join(["(if a then b else c)"] * 33))
        parse_term(" + ".join(["length(a)"] * 60))
        for ahead in ("a", "(a)", "-a", "length(a)", "(if a then b else c)", "not a"):
            parse_term(ahead + " and " + "(" * 30 + "a" + ")" * 30)
            with self.assertRaises(QueryError):
                parse_term(ahead + " and " + "(" * 31 + "a" + ")" * 31)

    def test_queries_in_brackets_count_too(self):
        def nested(many, term):
            return "pick * from (" * many + f"pick * from s where {term}" + ")" * many
        parse_query(nested(30, "a = b"))
        parse_query(nested(28, "not (a = b)"))
        for many, term in ((31, "a = b"), (30, "not a = b"), (29, "not (a = b)"), (30, "-a = b")):
            with self.subTest(many=many, term=term), self.assertRaises(QueryError):
                parse_query(nested(many, term))


if __name__ == "__main__":
    unittest.main()
