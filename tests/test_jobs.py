"""[12]: jobs, their steps and columns, and what comes of whole sources."""

import random
import unittest

from streamstack.errors import JobError, QueryError
from streamstack.jobs import (Job, check_spans, each_row, inputs_of, key_of, record_rank, shape_of_each, spans_of,
                              total_row, whole, whole_each, whole_meet, whole_totals)
from streamstack.rows import Shape

SHAPE = Shape((("a", "int"), ("t", "text")))
OTHER = Shape((("b", "int"), ("u", "text")))
A, T = ("column", "a"), ("column", "t")
POSITIVE = ("test", ">", A, ("int", 0))
COUNT = (("n", "count", None),)
TOTALS = COUNT + (("s", "sum", "a"), ("l", "least", "t"), ("g", "greatest", "t"))


def job_of(**steps):
    """Return a job of a source s of two columns, a source r of two others, and some steps."""
    job = Job()
    job.add("s", ("source", SHAPE))
    job.add("r", ("source", OTHER))
    for name, step in steps.items():
        job.add(name, step)
    return job


def state(job):
    return (list(job.steps.items()), list(job.shapes.items()))


class Steps(unittest.TestCase):
    def test_a_fresh_job(self):
        job = Job()
        self.assertEqual((job.steps, job.shapes), ({}, {}))
        self.assertEqual((job.readers("s"), job.of_class("source")), ([], []))

    def columns(self, step):
        job = job_of(x=step)
        self.assertEqual(job.steps["x"], step)
        return job.shapes["x"].columns

    def test_the_columns_behind_each_class_of_step(self):
        span = (("begin", "int"), ("end", "int"))
        behind = (("n", "int"), ("s", "int"), ("l", "text"), ("g", "text"))
        self.assertEqual(job_of().shapes["s"].columns, SHAPE.columns)
        self.assertEqual(self.columns(("each", "s", None, None)), SHAPE.columns)
        self.assertEqual(self.columns(("each", "s", POSITIVE, None)), SHAPE.columns)
        self.assertEqual(self.columns(("each", "s", POSITIVE, (("x", T), ("y", ("length", T))))),
                         (("x", "text"), ("y", "int")))
        self.assertEqual(self.columns(("key", "s", ("t", "a"))), SHAPE.columns)
        self.assertEqual(self.columns(("join", "r", "s")), OTHER.columns)
        self.assertEqual(self.columns(("join", "s", "s")), SHAPE.columns)
        self.assertEqual(self.columns(("total", "s", 5, 5, TOTALS)), span + behind)
        self.assertEqual(self.columns(("session", "s", 1, TOTALS)), span + behind)
        self.assertEqual(self.columns(("meet", "s", "r", 0)), SHAPE.columns + OTHER.columns)
        self.assertEqual(self.columns(("sink", "r")), OTHER.columns)

    def test_steps_that_do_not_fit(self):
        wrong = [
            ("order", "s"), ("", "s"), ("sink", "q"), ("sink", ""), ("sink", "x"), ("each", "q", None, None),
            ("each", "s", A, None), ("each", "s", ("test", "=", ("column", "b"), A), None),
            ("each", "s", ("test", "=", T, A), None), ("each", "s", None, (("x", POSITIVE),)),
            ("each", "s", None, (("x", ("column", "b")),)), ("each", "s", None, (("x", A), ("x", T))),
            ("each", "s", None, (("", A),)), ("each", "s", None, tuple((f"x{n}", A) for n in range(21))),
            ("key", "s", ("b",)), ("key", "q", ("a",)), ("key", "s", ("a", "")),
            ("join", "s", "q"), ("join", "q", "s"), ("join", "s", "narrow"), ("join", "s", "turned"),
            ("total", "q", 5, 5, COUNT), ("total", "s", 5, 0, COUNT), ("total", "s", 5, 6, COUNT),
            ("total", "s", 0, 0, COUNT), ("total", "s", -1, -1, COUNT), ("total", "s", 5, 5, ()),
            ("total", "s", 5, 5, (("n", "count", "a"),)), ("total", "s", 5, 5, (("n", "sum", "t"),)),
            ("total", "s", 5, 5, (("n", "sum", None),)), ("total", "s", 5, 5, (("n", "middle", "a"),)),
            ("total", "s", 5, 5, (("n", "least", "b"),)), ("total", "s", 5, 5, COUNT + COUNT),
            ("total", "s", 5, 5, (("begin", "count", None),)), ("total", "s", 5, 5, (("", "count", None),)),
            ("total", "s", 5, 5, tuple((f"n{n}", "count", None) for n in range(19))),
            ("session", "q", 5, COUNT), ("session", "s", 0, COUNT), ("session", "s", -1, COUNT),
            ("session", "s", 5, ()), ("session", "s", 5, (("end", "count", None),)),
            ("session", "s", 5, (("n", "sum", "t"),)),
            ("meet", "s", "r", -1), ("meet", "s", "s", 5), ("meet", "s", "q", 5), ("meet", "q", "s", 5),
        ]
        job = job_of(narrow=("each", "s", None, (("a", A),)), turned=("each", "s", None, (("t", T), ("a", A))))
        before = state(job)
        for step in wrong:
            with self.subTest(step=step):
                with self.assertRaises(JobError):
                    job.add("x", step)
                self.assertEqual(state(job), before)

    def test_columns_of_the_most_that_there_are(self):
        many = tuple((f"n{n}", "count", None) for n in range(18))
        self.assertEqual(len(job_of(x=("total", "s", 5, 5, many)).shapes["x"].columns), 20)
        self.assertEqual(job_of(x=("each", "s", None, ())).shapes["x"].columns, ())

    def test_names_that_are_taken_or_empty_and_a_sink_that_is_read(self):
        job = job_of(x=("sink", "s"))
        before = state(job)
        for name, step in (("s", ("source", OTHER)), ("x", ("sink", "s")), ("", ("sink", "s")), ("y", ("sink", "x")),
                           ("y", ("join", "s", "x")), ("y", ("each", "x", None, None))):
            with self.assertRaises(JobError):
                job.add(name, step)
            self.assertEqual(state(job), before)

    def test_40_steps_and_41(self):
        job = Job()
        for number in range(40):
            job.add(f"s{number}", ("source", SHAPE))
        before = state(job)
        with self.assertRaises(JobError):
            job.add("s40", ("source", SHAPE))
        self.assertEqual((len(job.steps), state(job)), (40, before))

    def test_readers_and_classes_in_order(self):
        job = job_of(j=("join", "s", "s"), k=("key", "s", ("a",)), m=("meet", "r", "s", 1), z=("sink", "j"),
                     y=("sink", "s"))
        self.assertEqual(job.readers("s"), [("j", 0), ("j", 1), ("k", 0), ("m", 1), ("y", 0)])
        self.assertEqual((job.readers("r"), job.readers("j"), job.readers("y"), job.readers("q")),
                         ([("m", 0)], [("z", 0)], [], []))
        self.assertEqual((job.of_class("source"), job.of_class("sink"), job.of_class("total")),
                         (["s", "r"], ["z", "y"], []))

    def test_inputs(self):
        for step, wanted in ((("source", SHAPE), ()), (("each", "s", None, None), ("s",)), (("key", "s", ("a",)), ("s",)),
                             (("join", "s", "r"), ("s", "r")), (("total", "s", 5, 5, COUNT), ("s",)),
                             (("session", "s", 5, COUNT), ("s",)), (("meet", "s", "r", 5), ("s", "r")),
                             (("sink", "s"), ("s",))):
            self.assertEqual(inputs_of(step), wanted)

    def test_times_that_cannot_be(self):
        for step in (("total", "s", 5, 0, COUNT), ("total", "s", 5, 6, COUNT), ("session", "s", 0, COUNT)):
            with self.assertRaises(JobError):
                check_spans(step)
        for step in (("total", "s", 5, 5, COUNT), ("session", "s", 1, COUNT), ("meet", "s", "r", 0)):
            self.assertIsNone(check_spans(step))


class Rows(unittest.TestCase):
    def test_the_shape_behind_an_each(self):
        self.assertEqual(shape_of_each(("each", "s", POSITIVE, (("x", A),)), SHAPE).columns, (("x", "int"),))
        self.assertEqual(shape_of_each(("each", "s", None, None), SHAPE).columns, SHAPE.columns)
        for step in (("each", "s", A, None), ("each", "s", None, (("x", POSITIVE),)),
                     ("each", "s", ("test", "=", A, T), None)):
            with self.assertRaises(QueryError):
                shape_of_each(step, SHAPE)

    def test_the_row_that_an_each_makes(self):
        pick = (("x", T), ("y", ("sum", "*", A, ("int", 2))))
        self.assertEqual(each_row(("each", "s", None, None), SHAPE, (0, "x")), (0, "x"))
        self.assertEqual(each_row(("each", "s", POSITIVE, None), SHAPE, (1, "x")), (1, "x"))
        self.assertIsNone(each_row(("each", "s", POSITIVE, None), SHAPE, (0, "x")))
        self.assertIsNone(each_row(("each", "s", POSITIVE, pick), SHAPE, (0, "x")))
        self.assertEqual(each_row(("each", "s", POSITIVE, pick), SHAPE, (3, "x")), ("x", 6))

    def test_the_key_that_a_key_gives(self):
        self.assertEqual(key_of(("key", "s", ("t", "a")), SHAPE, (3, "x")), ("x", 3))
        self.assertEqual(key_of(("key", "s", ("a",)), SHAPE, (3, "x")), (3,))

    def test_the_row_of_totals(self):
        rows = [(3, "x"), (-1, "y"), (3, "x")]
        self.assertEqual(total_row(("total", "s", 5, 5, TOTALS), SHAPE, (5, 10), rows), (5, 10, 3, 5, "x", "y"))
        self.assertEqual(total_row(("session", "s", 5, COUNT), SHAPE, (0, 9), rows[:1]), (0, 9, 1))


class Spans(unittest.TestCase):
    def test_windows(self):
        step = ("total", "s", 6, 3, COUNT)
        self.assertEqual(spans_of(step, []), [])
        self.assertEqual(spans_of(step, [(7, "late"), (0, "one"), (4, "two"), (7, "late")]),
                         [((0, 6), ["one", "two"]), ((3, 9), ["late", "two", "late"]), ((6, 12), ["late", "late"])])

    def test_sessions(self):
        step = ("session", "s", 5, COUNT)
        self.assertEqual(spans_of(step, []), [])
        self.assertEqual(spans_of(step, [(20, "d"), (0, "a"), (8, "c"), (4, "b"), (13, "e")]),
                         [((0, 13), ["a", "c", "b"]), ((13, 18), ["e"]), ((20, 25), ["d"])])


class Whole(unittest.TestCase):
    def give(self, step, *records, others=()):
        """Return what comes of a step, of records of the source s, and others of r."""
        job = job_of(x=step, out=("sink", "x"))
        found = whole(job, {"s": list(records), "r": list(others)})
        self.assertEqual(list(found), ["out"])
        return found["out"]

    def test_sources_with_no_records(self):
        for step in (("each", "s", POSITIVE, None), ("key", "s", ("a",)), ("join", "s", "r"),
                     ("total", "s", 5, 5, COUNT), ("session", "s", 5, COUNT), ("meet", "s", "r", 5)):
            self.assertEqual(self.give(step), [])
        job = job_of(z=("sink", "s"), y=("sink", "r"))
        self.assertEqual(whole(job, {"s": [], "r": [((), (1, "x"), 0)]}), {"z": [], "y": [((), (1, "x"), 0)]})
        self.assertEqual(whole(job, {}), {"z": [], "y": []})
        self.assertEqual(whole(Job(), {}), {})

    def test_each(self):
        records = ((("k",), (1, "x"), 4), (("k",), (0, "y"), 3), (("l",), (2, "z"), 2), (("k",), (1, "x"), 4))
        self.assertEqual(self.give(("each", "s", POSITIVE, (("t", T),)), *records),
                         [(("l",), ("z",), 2), (("k",), ("x",), 4), (("k",), ("x",), 4)])

    def test_key(self):
        self.assertEqual(self.give(("key", "s", ("t", "a")), (("k",), (1, "x"), 4), ((), (1, "x"), 3)),
                         [(("x", 1), (1, "x"), 3), (("x", 1), (1, "x"), 4)])

    def test_join(self):
        one = ((9,), (1, "x"), 4)
        other = (("k",), (5, "y"), 2)
        self.assertEqual(self.give(("join", "s", "r"), one, others=(other,)), [other, one])
        self.assertEqual(self.give(("join", "s", "s"), one), [one, one])

    def test_totals_of_windows_that_share_times(self):
        records = ((("k",), (1, "x"), 7), (("k",), (2, "y"), 4), (("l",), (5, "z"), 4), (("k",), (4, "w"), 0))
        self.assertEqual(self.give(("total", "s", 6, 3, TOTALS), *records), [
            (("k",), (0, 6, 2, 6, "w", "y"), 5), (("l",), (0, 6, 1, 5, "z", "z"), 5),
            (("k",), (3, 9, 2, 3, "x", "y"), 8), (("l",), (3, 9, 1, 5, "z", "z"), 8),
            (("k",), (6, 12, 1, 1, "x", "x"), 11)])

    def test_totals_do_not_wrap(self):
        most = 2 ** 63 - 1
        found = self.give(("total", "s", 5, 5, (("s", "sum", "a"),)), ((), (most, ""), 0), ((), (most, ""), 1))
        self.assertEqual(found, [((), (0, 5, 2 * most), 4)])

    def test_sessions_that_are_put_together(self):
        records = [(("k",), (time, "x"), time) for time in (20, 0, 9, 14, 5)] + [(("l",), (1, "y"), 5)]
        self.assertEqual(self.give(("session", "s", 5, COUNT), *records), [
            (("k",), (0, 5, 1), 4), (("l",), (5, 10, 1), 9), (("k",), (5, 14, 2), 13), (("k",), (14, 19, 1), 18),
            (("k",), (20, 25, 1), 24)])
        self.assertEqual(self.give(("session", "s", 6, COUNT), *records[:5]),
                         [(("k",), (0, 20, 4), 19), (("k",), (20, 26, 1), 25)])

    def test_meetings_at_just_the_gap_and_one_beyond(self):
        one = (("k",), (1, "x"), 10)
        others = tuple((("k",), (time, "y"), time) for time in (4, 5, 10, 15, 16)) + ((("l",), (0, "y"), 10),)
        self.assertEqual(self.give(("meet", "s", "r", 5), one, others=others), [
            (("k",), (1, "x", 5, "y"), 10), (("k",), (1, "x", 10, "y"), 10), (("k",), (1, "x", 15, "y"), 15)])
        self.assertEqual(self.give(("meet", "s", "r", 0), one, one, others=others),
                         [(("k",), (1, "x", 10, "y"), 10)] * 2)

    def test_steps_behind_each_other_and_keys_that_stay(self):
        job = job_of(e=("each", "s", POSITIVE, None), k=("key", "e", ("t",)), n=("total", "k", 10, 10, COUNT),
                     f=("each", "n", None, (("n", ("column", "n")),)), q=("key", "r", ("u",)), m=("meet", "f", "q", 3),
                     out=("sink", "m"), raw=("sink", "e"))
        sources = {"s": [((1,), (1, "x"), 2), ((2,), (2, "x"), 5), ((3,), (0, "x"), 6), ((4,), (3, "y"), 12)],
                   "r": [((5,), (7, "x"), 7), ((6,), (8, "y"), 7)]}
        found = whole(job, sources)
        self.assertEqual(found["out"], [(("x",), (2, 7, "x"), 9)])
        self.assertEqual(found["raw"], [sources["s"][0], sources["s"][1], sources["s"][3]])
        self.assertEqual(len(sources["s"]), 4)

    def test_what_stands_behind_single_steps(self):
        records = [(("k",), (1, "x"), 4), ((), (0, "y"), 2)]
        self.assertEqual(whole_each(("sink", "s"), SHAPE, records), records)
        self.assertEqual(whole_each(("key", "s", ("a",)), SHAPE, records), [((1,), (1, "x"), 4), ((0,), (0, "y"), 2)])
        self.assertEqual(whole_each(("each", "s", POSITIVE, None), SHAPE, records), records[:1])
        self.assertEqual(whole_totals(("session", "s", 2, COUNT), SHAPE, records),
                         [(("k",), (4, 6, 1), 5), ((), (2, 4, 1), 3)])
        self.assertEqual(whole_meet((records, [(("k",), (9, "z"), 2)]), 2), [(("k",), (1, "x", 9, "z"), 4)])
        self.assertEqual(whole_meet((records, [(("k",), (9, "z"), 2)]), 1), [])


class Ranks(unittest.TestCase):
    def test_time_then_the_length_of_the_key_then_its_and_the_rows_values(self):
        ascending = [
            (("z", "z"), (9,), 0), ((), (5,), 1), ((), ("a",), 1), ((2,), (9,), 1), ((10,), (1,), 1), ((10,), (1, 1), 1),
            ((10,), (2,), 1), ((10,), ("",), 1), (("",), (0,), 1), (("A",), (0,), 1), (("a",), (-1,), 1),
            ((-5, "x"), (0,), 1), ((-5, "y"), (0,), 1), ((1, 2), (0,), 1), (("a", 3), (0,), 1), (("a", ""), (0,), 1),
            ((0, 0, 0), (), 1), ((), (), 2)]
        chance = random.Random(12)
        for _ in range(20):
            shuffled = ascending[:]
            chance.shuffle(shuffled)
            self.assertEqual(sorted(shuffled, key=record_rank), ascending)
        self.assertIsInstance(record_rank(ascending[0]), tuple)

    def test_sinks_stand_by_rank(self):
        job = job_of(out=("sink", "s"))
        records = [(("a",), (1, "x"), 2), ((7,), (1, "x"), 2), ((7,), (1, "w"), 2), ((8,), (0, "x"), 2),
                   ((), (9, "x"), 2), (("a", 1), (0, "x"), 1)]
        self.assertEqual(whole(job, {"s": records, "r": []})["out"],
                         [records[5], records[4], records[2], records[1], records[3], records[0]])


if __name__ == "__main__":
    unittest.main()
