"""[14]: jobs that give the same with fewer steps, one change at a time."""

import random
import unittest

from drawn import draw_job, draw_records
from streamstack.jobmoves import (count_parts, fewer_steps, moved_job, one_each, put_columns, swapped, terms_use,
                                  used_steps)
from streamstack.jobs import Job, whole
from streamstack.rows import Shape

SHAPE = Shape((("a", "int"), ("t", "text")))
A, T, X, Y = ("column", "a"), ("column", "t"), ("column", "x"), ("column", "y")
COUNT = (("n", "count", None),)


def job_of(**steps):
    job = Job()
    job.add("s", ("source", SHAPE))
    for name, step in steps.items():
        job.add(name, step)
    return job


def over(term, number):
    return ("test", ">", term, ("int", number))


def both(one, other):
    return ("link", "and", one, other)


def plus(term, number):
    return ("sum", "+", term, ("int", number))


def long_term(parts, term=A):
    """Return a term of an odd number of parts, one of which is another term."""
    while count_parts(term) < parts:
        term = plus(term, 1)
    return term


def others(job):
    return {name: step for name, step in job.steps.items() if step[0] != "source"}


class Terms(unittest.TestCase):
    def test_put_columns(self):
        table = {"a": plus(T, 1), "t": A}
        self.assertEqual(put_columns(A, table), plus(T, 1))
        self.assertEqual(put_columns(X, table), X)
        self.assertEqual(put_columns(("int", 3), table), ("int", 3))
        self.assertEqual(put_columns(("text", "a"), table), ("text", "a"))
        self.assertEqual(put_columns(("if", over(A, 1), ("length", T), ("not", X)), table),
                         ("if", over(plus(T, 1), 1), ("length", A), ("not", X)))
        self.assertEqual(put_columns(both(("join", A, T), over(T, 2)), table),
                         both(("join", plus(T, 1), A), over(A, 2)))
        self.assertEqual(put_columns(A, {}), A)

    def test_count_parts(self):
        for term, many in ((A, 1), (("int", 3), 1), (("text", "column"), 1), (over(A, 1), 3), (("not", over(A, 1)), 4),
                           (("length", T), 2), (("join", T, T), 3), (("if", over(A, 1), A, plus(A, 1)), 8),
                           (both(over(A, 1), over(A, 2)), 7)):
            self.assertEqual(count_parts(term), many)

    def test_columns_that_an_each_reads(self):
        job = job_of(p=("each", "s", over(A, 1), None),
                     q=("each", "s", None, (("x", T), ("y", plus(A, 1)), ("z", T))),
                     v=("each", "s", over(A, 1), (("x", T), ("y", A))), w=("each", "s", None, None))
        self.assertEqual([terms_use(job, name) for name in "pqvw"], [("a",), ("t", "a"), ("a", "t"), ()])


class Used(unittest.TestCase):
    def test_steps_that_no_sink_hangs_on(self):
        job = job_of(r=("source", SHAPE), k=("key", "s", ("a",)), e=("each", "k", None, None), n=("key", "k", ("t",)),
                     m=("total", "n", 5, 5, COUNT), o=("sink", "e"))
        self.assertEqual(used_steps(job), ["s", "r", "k", "e", "o"])
        self.assertEqual(list(fewer_steps(job).steps), ["s", "r", "k", "e", "o"])

    def test_sources_stay_also_those_that_nobody_reads(self):
        self.assertEqual(used_steps(job_of(r=("source", SHAPE))), ["s", "r"])
        self.assertEqual(used_steps(job_of(k=("key", "s", ("a",)))), ["s"])
        self.assertEqual(list(fewer_steps(job_of(k=("key", "s", ("a",)))).steps), ["s"])
        self.assertEqual(used_steps(Job()), [])
        self.assertEqual(fewer_steps(Job()).steps, {})

    def test_both_inputs_of_a_step_are_used(self):
        job = job_of(e=("each", "s", None, (("b", A),)), m=("meet", "s", "e", 3), j=("join", "m", "m"), o=("sink", "j"))
        self.assertEqual(used_steps(job), ["s", "e", "m", "j", "o"])


class OneEach(unittest.TestCase):
    def one(self, first, later):
        job = job_of(e=("each", "s") + first, f=("each", "e") + later, o=("sink", "f"))
        found = one_each(job, "f")
        self.assertEqual(found[:2], ("each", "s"))
        self.assertEqual(others(moved_job(job)), {"f": found, "o": ("sink", "f")})
        self.assertEqual(list(fewer_steps(job).steps), ["s", "f", "o"])
        return found[2:]

    def test_with_and_without_truths_and_picked_columns(self):
        picked = (("x", plus(A, 1)), ("y", T))
        self.assertEqual(self.one((None, None), (None, None)), (None, None))
        self.assertEqual(self.one((over(A, 1), None), (None, None)), (over(A, 1), None))
        self.assertEqual(self.one((None, None), (over(A, 2), None)), (over(A, 2), None))
        self.assertEqual(self.one((over(A, 1), None), (over(A, 2), None)), (both(over(A, 1), over(A, 2)), None))
        self.assertEqual(self.one((over(A, 1), picked), (None, None)), (over(A, 1), picked))
        self.assertEqual(self.one((None, None), (over(A, 1), picked)), (over(A, 1), picked))
        self.assertEqual(self.one((over(A, 1), picked), (over(X, 2), None)),
                         (both(over(A, 1), over(plus(A, 1), 2)), picked))
        self.assertEqual(self.one((None, picked), (over(X, 2), (("z", ("length", Y)), ("a", plus(X, 3))))),
                         (over(plus(A, 1), 2), (("z", ("length", T)), ("a", plus(plus(A, 1), 3)))))
        self.assertEqual(self.one((None, (("t", A), ("a", T))), (over(T, 1), (("a", T), ("t", A)))),
                         (over(A, 1), (("a", A), ("t", T))))

    def test_one_that_another_step_reads_too(self):
        job = job_of(e=("each", "s", over(A, 1), None), f=("each", "e", over(A, 2), None), o=("sink", "f"),
                     p=("sink", "e"))
        self.assertIsNone(one_each(job, "f"))
        self.assertEqual(fewer_steps(job).steps, job.steps)

    def test_others(self):
        job = job_of(e=("each", "s", over(A, 1), None), k=("key", "e", ("a",)), o=("sink", "k"))
        self.assertEqual([one_each(job, name) for name in ("s", "e", "k", "o")], [None] * 4)

    def test_200_parts_and_201(self):
        # The first one's term has 99 parts, so that each column in the later one's adds 98.
        picked = (("x", long_term(99)), ("t", T))
        for truth, later, fits in (
                (None, (("z", long_term(101, X)),), True), (None, (("z", ("length", ("text", ""))),), True),
                (None, (("z", long_term(103, X)),), False),
                (None, (("y", X), ("z", long_term(103, X))), False),
                (over(long_term(99, X), 1), None, True), (over(long_term(101, X), 1), None, False)):
            job = job_of(e=("each", "s", None, picked), f=("each", "e", truth, later), o=("sink", "f"))
            with self.subTest(truth=truth is None, later=later is None, fits=fits):
                self.assertEqual(one_each(job, "f") is not None, fits)
                self.assertEqual("e" in fewer_steps(job).steps, not fits)
        # 200 and 201 parts just so, by a "not" that has one part.
        for nots, fits in ((0, True), (1, True), (2, False)):
            truth = over(long_term(97), 1)
            for _ in range(nots):
                truth = ("not", truth)
            job = job_of(e=("each", "s", over(long_term(97), 1), None), f=("each", "e", truth, None), o=("sink", "f"))
            self.assertEqual(count_parts(both(job.steps["e"][2], truth)), 199 + nots)
            self.assertEqual(one_each(job, "f") is not None, fits)


class Swapped(unittest.TestCase):
    def test_an_each_without_picked_columns_goes_ahead(self):
        for truth in (over(A, 1), None):
            job = job_of(k=("key", "s", ("a", "t")), e=("each", "k", truth, None), o=("sink", "e"))
            self.assertEqual(swapped(job, "e"), (("each", "s", truth, None), ("key", "k", ("a", "t"))))
            for fresh in (moved_job(job), fewer_steps(job)):
                self.assertEqual(list(fresh.steps.items())[1:], [
                    ("k", ("each", "s", truth, None)), ("e", ("key", "k", ("a", "t"))), ("o", ("sink", "e"))])

    def test_those_that_stay(self):
        job = job_of(k=("key", "s", ("a",)), e=("each", "k", over(A, 1), (("x", A),)), o=("sink", "e"))
        self.assertIsNone(swapped(job, "e"))
        self.assertEqual(fewer_steps(job).steps, job.steps)
        job = job_of(k=("key", "s", ("a",)), e=("each", "k", over(A, 1), None), o=("sink", "e"), p=("sink", "k"))
        self.assertIsNone(swapped(job, "e"))
        self.assertEqual(fewer_steps(job).steps, job.steps)
        job = job_of(e=("each", "s", over(A, 1), None), k=("key", "e", ("a",)), o=("sink", "k"))
        self.assertEqual([swapped(job, name) for name in ("s", "e", "k", "o")], [None] * 4)
        self.assertEqual(fewer_steps(job).steps, job.steps)

    def test_a_reader_that_goes_stands_in_no_way(self):
        job = job_of(k=("key", "s", ("a",)), e=("each", "k", over(A, 1), None), o=("sink", "e"),
                     u=("total", "k", 5, 5, COUNT))
        self.assertIsNone(swapped(job, "e"))
        self.assertEqual(list(fewer_steps(job).steps.items())[1:], [
            ("k", ("each", "s", over(A, 1), None)), ("e", ("key", "k", ("a",))), ("o", ("sink", "e"))])


class Moved(unittest.TestCase):
    def several(self):
        return job_of(k=("key", "s", ("a",)), e=("each", "k", over(A, 1), None), f=("each", "e", over(A, 2), None),
                      g=("each", "f", None, (("x", A),)), o=("sink", "g"))

    def test_one_change_at_a_time_the_first_by_the_steps_in_order(self):
        job = self.several()
        now = moved_job(job)
        self.assertEqual(others(now), {
            "k": ("each", "s", over(A, 1), None), "e": ("key", "k", ("a",)), "f": ("each", "e", over(A, 2), None),
            "g": ("each", "f", None, (("x", A),)), "o": ("sink", "g")})
        now = moved_job(now)
        self.assertEqual(others(now), {
            "k": ("each", "s", over(A, 1), None), "e": ("each", "k", over(A, 2), None), "f": ("key", "e", ("a",)),
            "g": ("each", "f", None, (("x", A),)), "o": ("sink", "g")})
        now = moved_job(now)
        self.assertEqual(others(now), {
            "e": ("each", "s", both(over(A, 1), over(A, 2)), None), "f": ("key", "e", ("a",)),
            "g": ("each", "f", None, (("x", A),)), "o": ("sink", "g")})
        self.assertEqual(moved_job(now).steps, now.steps)
        self.assertEqual(list(fewer_steps(job).steps.items()), list(now.steps.items()))

    def test_a_job_that_was_made_already_stays(self):
        made = fewer_steps(self.several())
        self.assertEqual(list(fewer_steps(made).steps.items()), list(made.steps.items()))
        self.assertEqual(moved_job(made).steps, made.steps)

    def test_the_job_that_was_handed_in_stays(self):
        job = self.several()
        before = (list(job.steps.items()), list(job.shapes.items()))
        moved_job(job)
        fewer_steps(job)
        self.assertEqual((list(job.steps.items()), list(job.shapes.items())), before)

    def test_shapes_behind_the_steps_that_are_left(self):
        made = fewer_steps(self.several())
        self.assertEqual({name: shape.columns for name, shape in made.shapes.items()},
                         {"s": SHAPE.columns, "e": SHAPE.columns, "f": SHAPE.columns, "g": (("x", "int"),),
                          "o": (("x", "int"),)})


class Drawn(unittest.TestCase):
    def test_the_same_records_come_at_the_same_sinks(self):
        changed = 0
        for seed in range(250):
            chance = random.Random(seed)
            classes = ("each", "each", "each", "key", "key", "join", "total", "session", "meet")
            job = draw_job(chance, chance.randrange(3, 12), classes, chance.randrange(1, 4))
            sources = {name: draw_records(chance, 12) for name in ("s", "r")}
            wanted = whole(job, sources)
            now = job
            fresh = moved_job(now)
            while fresh.steps != now.steps:
                self.assertEqual(whole(fresh, sources), wanted, seed)
                changed += 1
                now = fresh
                fresh = moved_job(now)
            made = fewer_steps(job)
            self.assertEqual(list(made.steps.items()), list(now.steps.items()))
            self.assertLessEqual(len(made.steps), len(job.steps))
            self.assertEqual(made.of_class("source"), job.of_class("source"))
            self.assertEqual(used_steps(made), list(made.steps))
            self.assertTrue(all(one_each(made, name) is None and swapped(made, name) is None for name in made.steps))
        self.assertGreater(changed, 200)


if __name__ == "__main__":
    unittest.main()
