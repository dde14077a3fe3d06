"""[13] (with [12] and [4]): jobs as lines of text, and faults that begin with the line's number."""

import unittest

from streamstack.errors import JobError, QueryError, RowError
from streamstack.jobs import Job, whole
from streamstack.rows import Shape
from streamstack.scripts import good_name, parse_each, parse_job, parse_step, parse_totals, parted, whole_number

A, T = ("column", "a"), ("column", "t")
HEAD = "s = source a int, t text\nr = source b int, u text\n"


def steps_of(text):
    """Return the steps of a text without its sources, whose shapes differ as objects."""
    return {name: step for name, step in parse_job(text).steps.items() if step[0] != "source"}


def step_of(line):
    return steps_of(HEAD + "x = " + line)["x"]


class Lines(unittest.TestCase):
    def test_sources(self):
        job = parse_job("s = source a int, t text\nr=source b int")
        self.assertEqual([job.steps["s"][0], job.shapes["s"].columns], ["source", (("a", "int"), ("t", "text"))])
        self.assertEqual(job.shapes["r"].columns, (("b", "int"),))
        self.assertEqual(parse_step("source a int")[1].columns, (("a", "int"),))

    def test_each_with_all_parts_and_without(self):
        truth = ("test", ">", A, ("int", 0))
        picked = (("x", ("sum", "+", A, ("int", 1))), ("y", T))
        self.assertEqual(step_of("each of s"), ("each", "s", None, None))
        self.assertEqual(step_of("each of s where a > 0"), ("each", "s", truth, None))
        self.assertEqual(step_of("each of s pick a + 1 as x, t as y"), ("each", "s", None, picked))
        self.assertEqual(step_of("each of s where a > 0 pick a + 1 as x, t as y"), ("each", "s", truth, picked))

    def test_other_classes(self):
        count = (("n", "count", None),)
        self.assertEqual(step_of("key of s by a"), ("key", "s", ("a",)))
        self.assertEqual(step_of("key of s by t, a"), ("key", "s", ("t", "a")))
        self.assertEqual(step_of("join of s and r"), ("join", "s", "r"))
        self.assertEqual(step_of("total of s each 10 by 5 : count as n"), ("total", "s", 10, 5, count))
        self.assertEqual(step_of("session of s within 7 : count as n"), ("session", "s", 7, count))
        self.assertEqual(step_of("meet of s and r within 0"), ("meet", "s", "r", 0))
        self.assertEqual(step_of("sink of s"), ("sink", "s"))

    def test_totals_of_each_kind(self):
        self.assertEqual(step_of("total of s each 5 by 5:sum a as p,least t as q , greatest a as g, count as n"),
                         ("total", "s", 5, 5, (("p", "sum", "a"), ("q", "least", "t"), ("g", "greatest", "a"),
                                               ("n", "count", None))))
        self.assertEqual(parse_totals("count as n"), (("n", "count", None),))
        for text in ("", "count", "count as", "count as n m", "count a as n", "sum as n", "sum a", "sum a b as n",
                     "sum a n", "sum a as", "middle a as n", "as n", "count n as", "count as n,", ",count as n",
                     "count as N", "sum A as n", "count as 1"):
            with self.subTest(text=text):
                with self.assertRaises(JobError):
                    parse_totals(text)

    def test_blanks_empty_lines_and_remarks(self):
        wanted = {"x": ("each", "s", ("test", ">", A, ("int", 0)), (("a", A),)), "y": ("key", "x", ("a",)),
                  "z": ("total", "y", 5, 5, (("n", "count", None),)), "m": ("meet", "s", "r", 3),
                  "o": ("sink", "z")}
        text = "# a job = one\n\n" + HEAD + "   \n  x   =   each  of  s  where  a > 0   pick  a  as  a  # = each\n" + (
            "y=key of  x  by  a#\n z = total of  y  each  5  by  5  :  count  as  n\n #\n"
            "m = meet of  s  and  r  within  3\n\no =  sink  of  z  \n#")
        self.assertEqual(steps_of(text), wanted)
        self.assertEqual(list(parse_job(text).steps), ["s", "r", "x", "y", "z", "m", "o"])
        for text in ("", "\n", " ", "# x = y", "\n#\n\n"):
            self.assertEqual(parse_job(text).steps, {})

    def test_steps_with_the_names_of_words(self):
        text = "of = source pick int\nwhere = each of of\npick = each of where\neach = join of where and pick\n" + (
            "and = join of pick and each\nby = key of and by pick\nx = each of pick where 1 = 1 pick 2 as by\n"
            "y = total of each each 5 by 5 : count as as")
        self.assertEqual(steps_of(text), {
            "where": ("each", "of", None, None), "pick": ("each", "where", None, None),
            "each": ("join", "where", "pick"), "and": ("join", "pick", "each"), "by": ("key", "and", ("pick",)),
            "x": ("each", "pick", ("test", "=", ("int", 1), ("int", 1)), (("by", ("int", 2)),)),
            "y": ("total", "each", 5, 5, (("as", "count", None),))})


class Terms(unittest.TestCase):
    def test_signs_of_lines_within_terms(self):
        same = ("test", "=", A, ("int", 1))
        self.assertEqual(step_of("each of s where a = 1"), ("each", "s", same, None))
        self.assertEqual(step_of("each of s where a=1 or a <= 2")[2],
                         ("link", "or", same, ("test", "<=", A, ("int", 2))))
        self.assertEqual(step_of("each of s pick if a = 1 then 1 else 2 as x"),
                         ("each", "s", None, (("x", ("if", same, ("int", 1), ("int", 2))),)))

    def test_texts_with_words_and_signs(self):
        for text in (" pick ", " where ", "a, b", ":", "=", "#", " as ", "a = b # c", ""):
            with self.subTest(text=text):
                self.assertEqual(step_of(f"each of s where t = '{text}'"),
                                 ("each", "s", ("test", "=", T, ("text", text)), None))
                self.assertEqual(step_of(f"each of s where t = '{text}' pick a as b # '")[2:],
                                 (("test", "=", T, ("text", text)), (("b", A),)))
        for text in (" pick ", " where ", ":", "=", "#", " as "):
            self.assertEqual(step_of(f"each of s pick '{text}' as x, t & '{text}' as y"),
                             ("each", "s", None, (("x", ("text", text)), ("y", ("join", T, ("text", text))))))

    def test_a_comma_parts_what_is_picked(self):
        with self.assertRaises(JobError):
            step_of("each of s pick 'a, b' as x")

    def test_eaches_that_cannot_be(self):
        for text in ("", "s where", "s pick", "s where pick a as b", "s pick a", "s pick a as", "s pick as b",
                     "s pick a as b c", "s pick a as b,", "s pick , a as b", "s a > 0", "s when a > 0", "S", "s, r",
                     "where a > 0", "pick a as b", "s where a > 0 where a < 5", "s pick a as b where a > 0",
                     "s where 'a pick a as b", "s pick a as b pick a as c", "s where a > 0 and", "s pick 1 as B"):
            with self.subTest(text=text):
                with self.assertRaises((JobError, QueryError)):
                    parse_each(text)
                with self.assertRaises(JobError):
                    step_of("each of " + text)
        self.assertEqual(parse_each("s where a > 0"), ("each", "s", ("test", ">", A, ("int", 0)), None))


class Faults(unittest.TestCase):
    def fault(self, text):
        with self.assertRaises(JobError) as caught:
            parse_job(text)
        return str(caught.exception)

    def test_lines_that_lack_a_word_or_have_another(self):
        for line in ("x", "= sink of s", "x = ", "x =", "x = sink", "x = sink of", "x = sink s", "x = sink of s r",
                     "x = sink by s", "x = find of s", "x = of s", "x sink of s", "x = each s", "x = each where a > 0",
                     "x = key of s", "x = key s by a", "x = key of s by", "x = key of by a", "x = key of s by a,",
                     "x = key of s by a b", "x = key of s a", "x = join of s", "x = join s and r", "x = join of s r",
                     "x = join of and r", "x = join of s and", "x = join of s, r",
                     "x = total of s each 5 by 5", "x = total of s each 5 by 5 count as n",
                     "x = total of s each 5 : count as n", "x = total of s by 5 : count as n",
                     "x = total s each 5 by 5 : count as n", "x = total of s each 5 by : count as n",
                     "x = total of s each by 5 : count as n", "x = total of each 5 by 5 : count as n",
                     "x = total of s each 5 by 5 :", "x = session of s within 5", "x = session of s : count as n",
                     "x = session of s within : count as n", "x = session of within 5 : count as n",
                     "x = session s within 5 : count as n", "x = meet of s and r", "x = meet of s within 5",
                     "x = meet s and r within 5", "x = meet of s and r within", "x = meet of s r within 5",
                     "x = source", "x = source a", "x = source a int b", "x = source a int,", "x = source , a int",
                     "x = source a int t text"):
            with self.subTest(line=line):
                self.assertTrue(self.fault(HEAD + line).startswith("3:"))

    def test_steps_that_cannot_be(self):
        for line in ("s = sink of r", "x = sink of q", "x = each of s where a", "x = each of s where b > 0",
                     "x = each of s where t > 0", "x = each of s pick a > 0 as b", "x = each of s pick a as b, t as b",
                     "x = key of s by b", "x = total of s each 5 by 6 : count as n",
                     "x = total of s each 5 by 0 : count as n", "x = session of s within 0 : count as n",
                     "x = total of s each 5 by 5 : sum t as n", "x = total of s each 5 by 5 : count as begin",
                     "x = meet of s and s within 5", "x = source a number", "x = source a int, a text",
                     "x = source a int, A text", "x = each of s where t = '",
                     "x = each of s where " + "(" * 31 + "a" + ")" * 31 + " = 1",
                     "x = each of s where a = 1" + " + 1" * 150):
            with self.subTest(line=line):
                self.assertTrue(self.fault(HEAD + line).startswith("3:"))

    def test_numbers_of_the_first_a_middle_and_the_last_line(self):
        for text, number in (("x\n" + HEAD, 1), ("\n \n# x\nx\n" + HEAD, 4), (HEAD + "\n\nx = sink of q\ny = sink of s", 5),
                             (HEAD + "y = sink of x\nx = sink of s", 3), (HEAD + "x = sink of y", 3),
                             (HEAD + "x = sink of x", 3), (HEAD + "x = sink of s\ny = sink of x", 4),
                             (HEAD + "\n" * 57 + "x = sink of q", 60)):
            with self.subTest(text=text):
                self.assertTrue(self.fault(text).startswith(f"{number}:"), self.fault(text))

    def test_60_lines_and_61(self):
        lines = ["s = source a int"] + [f"x{n} = sink of s" for n in range(39)]
        self.assertEqual(len(parse_job("\n".join(lines + ["#"] * 20)).steps), 40)
        self.fault("\n".join(lines + ["#"] * 21))
        self.assertEqual(parse_job("\n" * 59).steps, {})
        self.fault("\n" * 60)
        self.assertTrue(self.fault("\n".join(["s = source a int"] + [f"x{n} = sink of s" for n in range(40)]))
                        .startswith("41:"))


class Parts(unittest.TestCase):
    def test_names(self):
        for name in ("a", "z", "a1", "a_", "a_b2c", "zebra", "pick"):
            self.assertEqual(good_name(name), name)
        for name in ("", "A", "aB", "1", "1a", "_", "_a", "a b", " a", "a ", "a-b", "a.b", "'a'", "a,"):
            with self.subTest(name=name):
                with self.assertRaises(JobError):
                    good_name(name)
                if name.strip() == name:
                    with self.assertRaises(JobError):
                        parse_job(f"{name} = source a int")

    def test_numbers(self):
        self.assertEqual([whole_number(text) for text in ("0", "7", "12", "999999999", "007")],
                         [0, 7, 12, 999999999, 7])
        for text in ("", "1234567890", "0000000001", "-1", "+1", "1.0", "1 2", " 1", "a", "1a", "1_0"):
            with self.assertRaises(JobError):
                whole_number(text)
            with self.assertRaises(JobError):
                parse_job(HEAD + f"x = session of s within {text}a : count as n")
        self.assertEqual(step_of("meet of s and r within 999999999")[3], 999999999)
        for text in ("1000000000", "-1", "+1", ""):
            with self.assertRaises(JobError):
                step_of(f"meet of s and r within {text}")

    def test_parted(self):
        self.assertEqual(parted("a and b and c", " and "), ("a", "b and c"))
        self.assertEqual(parted("  a  :  b  ", ":"), ("a", "b"))
        self.assertEqual(parted(":", ":"), ("", ""))
        for text in ("", "a", "a;b"):
            with self.assertRaises(JobError):
                parted(text, ":")

    def test_steps_raise_what_they_are(self):
        for text, error in (("source a", JobError), ("source a number", RowError), ("each s", JobError),
                            ("sank of s", JobError), ("sink of S", JobError), ("each of s where a >", QueryError),
                            ("each of s pick a + as b", QueryError), ("source a int, a int", RowError), ("", JobError)):
            with self.subTest(text=text):
                with self.assertRaises(error):
                    parse_step(text)
        self.assertEqual(parse_step(" sink of s "), ("sink", "s"))


class Whole(unittest.TestCase):
    TEXT = """
    sales = source shop text, cents int     # what comes in
    visits = source place text, who text

    big = each of sales where cents >= 100 pick shop as shop, cents / 100 as euros
    shops = key of big by shop
    sums = total of shops each 10 by 5 : sum euros as total, count as n
    stays = session of visits within 3 : count as visits
    both = meet of shops and visits within 2
    all = join of sums and sums
    out = sink of all
    long = sink of stays
    met = sink of both
    """

    def job(self):
        """Return the same job, added step by step."""
        job = Job()
        cents, shop = ("column", "cents"), ("column", "shop")
        for name, step in (
                ("sales", ("source", Shape((("shop", "text"), ("cents", "int"))))),
                ("visits", ("source", Shape((("place", "text"), ("who", "text"))))),
                ("big", ("each", "sales", ("test", ">=", cents, ("int", 100)),
                         (("shop", shop), ("euros", ("sum", "/", cents, ("int", 100)))))),
                ("shops", ("key", "big", ("shop",))),
                ("sums", ("total", "shops", 10, 5, (("total", "sum", "euros"), ("n", "count", None)))),
                ("stays", ("session", "visits", 3, (("visits", "count", None),))),
                ("both", ("meet", "shops", "visits", 2)), ("all", ("join", "sums", "sums")),
                ("out", ("sink", "all")), ("long", ("sink", "stays")), ("met", ("sink", "both"))):
            job.add(name, step)
        return job

    def test_the_same_job_as_one_that_is_added_step_by_step(self):
        read, added = parse_job(self.TEXT), self.job()
        self.assertEqual(list(read.steps), list(added.steps))
        for name, step in added.steps.items():
            if step[0] != "source":
                self.assertEqual(read.steps[name], step)
            self.assertEqual(read.shapes[name].columns, added.shapes[name].columns)

    def test_what_comes_of_whole_sources(self):
        sources = {"sales": [((1,), ("x", 250), 3), ((1,), ("y", 99), 4), ((2,), ("x", 100), 7)],
                   "visits": [(("x",), ("x", "ann"), 5), (("x",), ("x", "bob"), 7), (("y",), ("y", "bob"), 7)]}
        found = whole(parse_job(self.TEXT), sources)
        self.assertEqual(found, whole(self.job(), sources))
        self.assertEqual(found["out"], [record for record in (
            (("x",), (0, 10, 3, 2), 9), (("x",), (5, 15, 1, 1), 14)) for _ in range(2)])
        self.assertEqual(found["long"], [(("x",), (5, 10, 2), 9), (("y",), (7, 10, 1), 9)])
        self.assertEqual(found["met"], [(("x",), ("x", 2, "x", "ann"), 5), (("x",), ("x", 1, "x", "ann"), 7),
                                        (("x",), ("x", 1, "x", "bob"), 7)])


if __name__ == "__main__":
    unittest.main()
