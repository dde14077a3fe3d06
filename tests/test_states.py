"""[15], what a step keeps: windows and sessions that are over, meetings, what is too late, what is shown and taken."""

import random
import unittest

from drawn import SHAPES, draw_records
from streamstack.errors import JobError, SnapshotError
from streamstack.jobs import Job, record_rank, whole
from streamstack.rows import Shape, hash_of
from streamstack.states import (GROUPS, MeetState, PlainState, SessionState, TotalState, group_of, key_rank, span_rank,
                                state_of)

SHAPE, OTHER = SHAPES["s"], SHAPES["r"]
A, T = ("column", "a"), ("column", "t")
COUNT = (("n", "count", None),)
SUMS = COUNT + (("s", "sum", "a"),)


def at(time, key="k", number=1):
    return ((key,), (number, "x"), time)


def total(length=10, step=5, totals=COUNT):
    return TotalState(("total", "s", length, step, totals), [SHAPE])


def session(gap=5, totals=COUNT):
    return SessionState(("session", "s", gap, totals), [SHAPE])


def meet(gap=5):
    return MeetState(("meet", "s", "r", gap), [SHAPE, OTHER])


def take_all(state, records, mark=0, place=0):
    return [given for record in records for given in state.take(place, record, mark)]


def kept(state):
    """Return what a state keeps, whatever its class, and how many were too late."""
    return (state.shown(), state.late)


class Groups(unittest.TestCase):
    def test_the_hash_of_the_key_by_32(self):
        self.assertEqual(GROUPS, 32)
        for key in ((), (1,), ("north", 5), ("", "")):
            self.assertEqual(group_of(key), hash_of(key) % 32)
        self.assertEqual({group_of((number,)) for number in range(500)}, set(range(32)))

    def test_ranks(self):
        keys = [(), (2,), (10,), ("",), ("a",), (1, 5), ("a", 1), ("a", "")]
        self.assertEqual(sorted(reversed(keys), key=key_rank), keys)
        self.assertIsInstance(key_rank((1,)), tuple)
        spans = [(("b",), (0, 5)), (("a",), (1, 5)), (("b",), (1, 5)), ((1, 1), (1, 5)), (("a",), (0, 6))]
        self.assertEqual(sorted(reversed(spans), key=span_rank), spans)
        self.assertIsInstance(span_rank(spans[0]), tuple)


class Plain(unittest.TestCase):
    def state(self, step):
        return PlainState(step, [SHAPE])

    def test_what_comes_of_a_record_ahead_of_and_behind_the_time(self):
        each = self.state(("each", "s", ("test", ">", A, ("int", 0)), (("u", T),)))
        key = self.state(("key", "s", ("t", "a")))
        for mark in (0, 3, 100):
            self.assertEqual(each.take(0, (("k",), (1, "x"), 3), mark), [(("k",), ("x",), 3)])
            self.assertEqual(each.take(0, (("k",), (0, "x"), 3), mark), [])
            self.assertEqual(key.take(0, (("k",), (1, "x"), 3), mark), [(("x", 1), (1, "x"), 3)])
            for step in (("join", "s", "r"), ("sink", "s"), ("each", "s", None, None)):
                for place in (0, 1):
                    self.assertEqual(self.state(step).take(place, at(3), mark), [at(3)])

    def test_nothing_is_kept(self):
        for step in (("each", "s", None, None), ("key", "s", ("a",)), ("join", "s", "r"), ("sink", "s")):
            state = self.state(step)
            state.take(0, at(3), 100)
            self.assertEqual((state.come(1000), state.shown(), state.late), ([], {}, 0))
            for other in (total(), session(), meet()):
                other.take(0, at(3), 0)
                for told in list(other.shown().values()) + [()]:
                    with self.assertRaises(SnapshotError):
                        state.put(told)
            self.assertEqual((state.shown(), state.late), ({}, 0))
        self.assertEqual((state.shapes, state.late), ([SHAPE], 0))


class Totals(unittest.TestCase):
    def test_fields_and_times_that_cannot_be(self):
        state = total()
        self.assertEqual((state.shapes, state.late, state.shown()), ([SHAPE], 0, {}))
        for length, step in ((5, 0), (5, 6), (0, 0)):
            with self.assertRaises(JobError):
                total(length, step)

    def test_windows_whose_end_has_come_just_then_and_one_before(self):
        state = total(10, 10, SUMS)
        self.assertEqual(take_all(state, [at(3), at(9, number=4), at(12), at(10, "l")]), [])
        self.assertEqual((state.come(0), state.come(9)), ([], []))
        self.assertEqual(state.come(10), [(("k",), (0, 10, 2, 5), 9)])
        self.assertEqual((state.come(10), state.come(19)), ([], []))
        self.assertEqual(state.come(25), [(("k",), (10, 20, 1, 1), 19), (("l",), (10, 20, 1, 1), 19)])
        self.assertEqual((state.come(99), kept(state)), ([], ({}, 0)))

    def test_ends_then_keys(self):
        state = total(10, 5)
        take_all(state, [at(7, "b"), at(7, 20), at(2, "c"), at(7, 3), ((), (1, "x"), 7), (("a", "a"), (1, "x"), 7)])
        self.assertEqual([(key, time) for key, _, time in state.come(100)],
                         [((), 9), ((3,), 9), ((20,), 9), (("b",), 9), (("c",), 9), (("a", "a"), 9),
                          ((), 14), ((3,), 14), ((20,), 14), (("b",), 14), (("a", "a"), 14)])

    def test_late_for_one_of_several_windows_and_how_often_it_counts(self):
        state = total(12, 4)
        self.assertEqual(state.take(0, at(9), 11), [])
        self.assertEqual((state.late, state.come(12)), (0, [(("k",), (0, 12, 1), 11)]))
        state.take(0, at(9), 12)
        self.assertEqual(state.late, 1)
        state.take(0, at(9), 15)
        self.assertEqual(state.late, 2)
        state.take(0, at(9), 16)
        self.assertEqual(state.late, 4)
        state.take(0, at(9), 20)
        self.assertEqual(state.late, 7)
        self.assertEqual(state.come(100), [(("k",), (4, 16, 3), 15), (("k",), (8, 20, 4), 19)])

    def test_shown_ascending_and_taken_by_another(self):
        state = total(10, 5)
        take_all(state, [at(7, "b", 2), at(12, "b"), at(7, "b", 9), at(7, 3)])
        shown = state.shown()
        self.assertEqual(sorted(shown), sorted({group_of(("b",)), group_of((3,))}))
        self.assertEqual(shown[group_of(("b",))], (
            ((("b",), (0, 10)), ((2, "x"), (9, "x"))), ((("b",), (5, 15)), ((2, "x"), (1, "x"), (9, "x"))),
            ((("b",), (10, 20)), ((1, "x"),))))
        fresh = total(10, 5)
        self.assertIsNone(fresh.put(shown[group_of(("b",))]))
        self.assertEqual(fresh.shown(), {group_of(("b",)): shown[group_of(("b",))]})
        fresh.take(0, at(8, "b"), 0)
        self.assertEqual(state.shown(), shown)
        self.assertEqual(fresh.come(10), [(("b",), (0, 10, 3), 9)])
        self.assertEqual(state.come(10), [((3,), (0, 10, 1), 9), (("b",), (0, 10, 2), 9)])


class Sessions(unittest.TestCase):
    def test_fields_and_a_gap_that_cannot_be(self):
        state = session()
        self.assertEqual((state.shapes, state.late, state.shown()), ([SHAPE], 0, {}))
        for gap in (0, -1):
            with self.assertRaises(JobError):
                session(gap)

    def test_spans_whose_end_has_come_just_then_and_one_before(self):
        state = session(5, SUMS)
        self.assertEqual(take_all(state, [at(3), at(7, number=4), at(12), at(3, "l")]), [])
        self.assertEqual(state.come(7), [])
        self.assertEqual(state.come(8), [(("l",), (3, 8, 1, 1), 7)])
        self.assertEqual(state.come(11), [])
        self.assertEqual(state.come(12), [(("k",), (3, 12, 2, 5), 11)])
        self.assertEqual((state.come(16), state.come(17)), ([], [(("k",), (12, 17, 1, 1), 16)]))
        self.assertEqual(kept(state), ({}, 0))

    def test_spans_are_put_together(self):
        state = session(5)
        take_all(state, [at(20), at(0), at(9), at(4), at(24)])
        self.assertEqual(state.shown(), {group_of(("k",)): (
            ((("k",), (0, 9)), ((1, "x"),) * 2), ((("k",), (9, 14)), ((1, "x"),)), ((("k",), (20, 29)), ((1, "x"),) * 2))})
        take_all(state, [at(13), at(16)])
        self.assertEqual(state.come(100), [(("k",), (0, 9, 2), 8), (("k",), (9, 29, 5), 28)])

    def test_ends_then_begins_then_keys(self):
        state = session(5)
        take_all(state, [at(4, "b"), at(1, "b"), at(4, "a"), at(3, "c"), at(4, 7)])
        self.assertEqual([key for key, _, _ in state.come(100)], [("c",), ("b",), (7,), ("a",)])

    def test_sessions_that_a_late_record_would_join(self):
        state = session(5)
        state.take(0, at(10), 0)
        # Alone it would be over at 11; with the one that is there it is not before 15.
        state.take(0, at(6), 12)
        self.assertEqual((state.late, state.shown()), (0, {group_of(("k",)): (
            ((("k",), (6, 15)), ((1, "x"), (1, "x"))),)}))
        state.take(0, at(1), 12)
        self.assertEqual(state.late, 1)
        state.take(0, at(2), 14)
        self.assertEqual((state.late, [span for (_, span), _ in state.shown()[group_of(("k",))]]), (1, [(2, 15)]))
        state.take(0, at(2), 15)
        state.take(0, at(2, "l"), 7)
        state.take(0, at(3, "l"), 7)
        self.assertEqual(state.late, 3)
        self.assertEqual(state.come(15), [((key,), row, time) for key, row, time in (
            ("l", (3, 8, 1), 7), ("k", (2, 15, 3), 14))])

    def test_shown_and_taken_by_another(self):
        state = session(5)
        take_all(state, [at(7, "b"), at(1, "b"), at(7, 3)])
        shown = state.shown()
        fresh = session(5)
        for told in shown.values():
            self.assertIsNone(fresh.put(told))
        self.assertEqual(fresh.shown(), shown)
        fresh.take(0, at(4, "b"), 0)
        self.assertEqual(state.shown(), shown)
        self.assertEqual(fresh.come(100), [(("b",), (1, 12, 3), 11), ((3,), (7, 12, 1), 11)])


class Meetings(unittest.TestCase):
    def test_fields(self):
        state = meet()
        self.assertEqual((state.shapes, state.late, state.sides, state.shown()), ([SHAPE, OTHER], 0, ({}, {}), {}))

    def test_at_just_the_gap_and_one_beyond_in_the_order_in_which_they_came(self):
        state = meet(5)
        self.assertEqual(take_all(state, [(("k",), (n, "y"), n) for n in (15, 4, 10, 16, 5)], place=1), [])
        self.assertEqual(state.take(0, at(10), 0), [
            (("k",), (1, "x", 15, "y"), 15), (("k",), (1, "x", 10, "y"), 10), (("k",), (1, "x", 5, "y"), 10)])
        self.assertEqual(state.take(0, at(10, "l"), 0), [])
        self.assertEqual(state.take(1, (("k",), (7, "z"), 11), 0), [(("k",), (1, "x", 7, "z"), 11)])
        self.assertEqual([len(rows) for side in state.sides for rows in side.values()], [1, 1, 6])
        state = meet(0)
        state.take(0, at(10), 0)
        self.assertEqual([len(state.take(1, at(time), 0)) for time in (9, 10, 11)], [0, 1, 0])

    def test_rows_that_nothing_that_comes_can_meet_are_forgotten(self):
        state = meet(5)
        state.take(0, at(10), 0)
        state.take(0, at(12, "l"), 0)
        state.take(1, at(11), 0)
        self.assertEqual(state.come(15), [])
        self.assertEqual([sorted(side) for side in state.sides], [[("k",), ("l",)], [("k",)]])
        self.assertEqual(len(state.take(1, at(15, number=4), 15)), 1)
        self.assertEqual(state.come(16), [])
        self.assertEqual([sorted(side) for side in state.sides], [[("l",)], [("k",)]])
        self.assertEqual(list(state.sides[1][("k",)]), [((1, "x"), 11), ((4, "x"), 15)])
        state.come(17)
        self.assertEqual([list(side) for side in state.sides], [[("l",)], [("k",)]])
        self.assertEqual(list(state.sides[1][("k",)]), [((4, "x"), 15)])
        state.come(21)
        self.assertEqual((state.sides, state.late), (({}, {}), 0))

    def test_records_behind_the_time_meet_what_is_still_there(self):
        state = meet(5)
        state.take(0, at(10), 0)
        state.come(14)
        self.assertEqual(state.take(1, at(8), 14), [(("k",), (1, "x", 1, "x"), 10)])
        self.assertEqual(state.late, 0)

    def test_shown_and_taken_by_another(self):
        state = meet(5)
        state.take(0, at(10), 0)
        state.take(0, at(11), 0)
        state.take(1, at(17), 0)
        state.take(1, at(30, "l"), 0)
        shown = state.shown()
        self.assertEqual(shown[group_of(("k",))], (
            (0, ("k",), (((1, "x"), 10), ((1, "x"), 11))), (1, ("k",), (((1, "x"), 17),))))
        fresh = meet(5)
        for told in shown.values():
            self.assertIsNone(fresh.put(told))
        self.assertEqual((fresh.shown(), fresh.sides), (shown, state.sides))
        self.assertEqual(len(fresh.take(1, at(12), 0)), 2)
        self.assertEqual(state.shown(), shown)
        self.assertEqual(len(state.take(1, at(12), 0)), 2)


class StateOf(unittest.TestCase):
    def test_a_fresh_state_of_each_class(self):
        job = Job()
        job.add("s", ("source", SHAPE))
        job.add("r", ("source", OTHER))
        for name, step, kind in (
                ("e", ("each", "s", None, None), PlainState), ("k", ("key", "s", ("a",)), PlainState),
                ("j", ("join", "s", "r"), PlainState), ("t", ("total", "s", 5, 5, COUNT), TotalState),
                ("q", ("session", "s", 5, COUNT), SessionState), ("m", ("meet", "s", "r", 5), MeetState),
                ("o", ("sink", "s"), PlainState)):
            job.add(name, step)
            state = state_of(job, name)
            self.assertIs(type(state), kind)
            self.assertEqual((state.shapes, state.late), ([job.shapes[one] for one in step[1:] if one in ("s", "r")], 0))
            self.assertIsNot(state_of(job, name), state)


class Drawn(unittest.TestCase):
    STEPS = (("total", "s", 7, 3, SUMS), ("total", "s", 4, 4, SUMS), ("session", "s", 3, SUMS), ("meet", "s", "r", 3),
             ("meet", "s", "s2", 0))

    def run_step(self, chance, job, step, records, late):
        """Return what a step gives of records by places, its state shown and taken by splits of the groups at times."""
        many = 1
        states = [state_of(job, "x")]
        given, tops = [], [0] * len(records)
        left = [list(one) for one in records]
        mark = 0
        while any(left):
            place = chance.choice([n for n, one in enumerate(left) if one])
            record = left[place].pop(0)
            given.extend(states[group_of(record[0]) * many // GROUPS].take(place, record, mark))
            tops[place] = max(tops[place], record[2])
            mark = max(mark, min(tops) - late)
            for state in states:
                given.extend(state.come(mark))
            if chance.random() < 0.1:
                many = chance.randrange(1, 9)
                shown = [pair for state in states for pair in state.shown().items()]
                self.assertEqual([state.late for state in states], [0] * len(states))
                states = [state_of(job, "x") for _ in range(many)]
                for group, told in shown:
                    states[group * many // GROUPS].put(told)
        for state in states:
            given.extend(state.come(10 ** 9))
        return given

    def test_what_states_give_is_what_whole_gives(self):
        for seed in range(150):
            chance = random.Random(seed)
            step = self.STEPS[seed % len(self.STEPS)]
            job = Job()
            job.add("s", ("source", SHAPE))
            job.add("r", ("source", OTHER))
            job.add("s2", ("source", Shape((("c", "int"), ("v", "text")))))
            job.add("x", step)
            job.add("o", ("sink", "x"))
            late = chance.randrange(0, 5)
            names = [one for one in step[1:] if one in ("s", "r", "s2")]
            sources = {name: draw_records(chance, chance.randrange(1, 40), late) for name in names}
            found = self.run_step(chance, job, step, [sources[name] for name in names], late)
            self.assertEqual(sorted(found, key=record_rank), whole(job, sources)["o"], seed)


if __name__ == "__main__":
    unittest.main()
