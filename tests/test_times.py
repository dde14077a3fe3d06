"""[9]: the time that counts, windows, sessions."""

import random
import unittest

from streamstack.errors import JobError
from streamstack.times import Marks, Sessions, Windows


class TimesThatCount(unittest.TestCase):
    def test_the_least_of_all_channels_counts(self):
        marks = Marks(("a", "b"))
        self.assertEqual((marks.now, marks.time_now()), (0, 0))
        self.assertEqual(marks.tell("a", 7), 0)
        self.assertEqual((marks.tell("b", 5), marks.now, marks.time_now()), (5, 5, 5))
        self.assertEqual(marks.tell("b", 9), 7)
        self.assertEqual(marks.tell("a", 8), 8)

    def test_a_channel_that_tells_an_earlier_time(self):
        marks = Marks(("a", "b"))
        marks.tell("a", 7)
        marks.tell("b", 5)
        self.assertEqual((marks.tell("b", 2), marks.tell("a", 0)), (5, 5))
        self.assertEqual(marks.tell("b", 6), 6)
        self.assertEqual(marks.tell("b", 9), 7)

    def test_idle_ones_do_not_count(self):
        marks = Marks(("a", "b", "c"))
        marks.tell("a", 7)
        self.assertEqual(marks.rest("b"), 0)
        self.assertEqual(marks.rest("c"), 7)
        self.assertEqual(marks.rest("c"), 7)
        self.assertEqual(marks.tell("a", 9), 9)

    def test_one_that_tells_again_is_idle_no_more_and_nothing_goes_back(self):
        marks = Marks(("a", "b"))
        marks.tell("a", 7)
        marks.rest("b")
        self.assertEqual(marks.tell("b", 3), 7)
        self.assertEqual(marks.tell("a", 20), 7)
        self.assertEqual(marks.tell("b", 8), 8)
        self.assertEqual(marks.now, 8)

    def test_if_all_rest_it_stays(self):
        marks = Marks(("a", "b"))
        marks.tell("a", 7)
        marks.tell("b", 4)
        self.assertEqual((marks.rest("b"), marks.rest("a"), marks.time_now()), (7, 7, 7))
        self.assertEqual(Marks(()).time_now(), 0)
        marks = Marks(("a",))
        self.assertEqual((marks.rest("a"), marks.tell("a", 2)), (0, 2))

    def test_times_below_0(self):
        marks = Marks(("a",))
        self.assertEqual((marks.tell("a", -3), marks.now), (0, 0))

    def test_unknown_channels(self):
        marks = Marks(("a",))
        marks.tell("a", 3)
        for call in (lambda: marks.tell("b", 9), lambda: marks.rest("b"), lambda: marks.tell("", 9)):
            with self.assertRaises(JobError):
                call()
        self.assertEqual((marks.now, marks.time_now()), (3, 3))

    def test_drawn_runs(self):
        for seed in range(100):
            chance = random.Random(seed)
            names = "abcd"[:chance.randrange(1, 5)]
            marks = Marks(tuple(names))
            told, idle, now = {name: 0 for name in names}, set(), 0
            for _ in range(30):
                name = chance.choice(names)
                if chance.random() < 0.3:
                    idle.add(name)
                    found = marks.rest(name)
                else:
                    idle.discard(name)
                    time = chance.randrange(50)
                    told[name] = max(told[name], time)
                    found = marks.tell(name, time)
                now = max([now] + [min(told[one] for one in names if one not in idle)]) if len(idle) < len(names) \
                    else now
                self.assertEqual((found, marks.now, marks.time_now()), (now, now, now))


class WindowsOfTime(unittest.TestCase):
    def test_steps_that_cannot_be(self):
        for length, step in ((5, 0), (5, -1), (5, 6), (0, 0), (0, 1), (-1, -1)):
            with self.assertRaises(JobError):
                Windows(length, step)

    def test_windows_that_follow_each_other(self):
        windows = Windows(5, 5)
        for time, begin in ((0, 0), (4, 0), (5, 5), (9, 5), (10, 10)):
            self.assertEqual(windows.around(time), ((begin, begin + 5),))

    def test_a_step_that_parts_the_length(self):
        windows = Windows(6, 2)
        self.assertEqual(windows.around(0), ((0, 6),))
        self.assertEqual(windows.around(1), ((0, 6),))
        self.assertEqual(windows.around(2), ((0, 6), (2, 8)))
        self.assertEqual(windows.around(5), ((0, 6), (2, 8), (4, 10)))
        self.assertEqual(windows.around(6), ((2, 8), (4, 10), (6, 12)))
        self.assertEqual(windows.around(7), ((2, 8), (4, 10), (6, 12)))

    def test_a_step_that_does_not(self):
        windows = Windows(5, 3)
        self.assertEqual(windows.around(2), ((0, 5),))
        self.assertEqual(windows.around(4), ((0, 5), (3, 8)))
        self.assertEqual(windows.around(5), ((3, 8),))
        self.assertEqual(windows.around(7), ((3, 8), (6, 11)))

    def test_against_all_that_there_are(self):
        for length in range(1, 9):
            for step in range(1, length + 1):
                windows = Windows(length, step)
                for time in range(-3, 40):
                    wanted = tuple((begin, begin + length) for begin in range(0, 60, step)
                                   if begin <= time < begin + length)
                    self.assertEqual(windows.around(time), wanted, (length, step, time))


class SpansOfSessions(unittest.TestCase):
    def test_gaps_that_cannot_be(self):
        for gap in (0, -1):
            with self.assertRaises(JobError):
                Sessions(gap)

    def test_a_gap_of_1(self):
        sessions = Sessions(1)
        self.assertEqual(sessions.joined((), 4), (((4, 5),), (4, 5), ()))
        self.assertEqual(sessions.joined(((4, 5),), 5), (((4, 5), (5, 6)), (5, 6), ()))
        self.assertEqual(sessions.joined(((4, 5),), 3), (((3, 4), (4, 5)), (3, 4), ()))
        self.assertEqual(sessions.joined(((4, 5),), 4), (((4, 5),), (4, 5), ((4, 5),)))

    def test_touching_none_one_and_two(self):
        sessions = Sessions(5)
        spans = ((10, 15), (18, 30), (50, 55))
        self.assertEqual(sessions.joined(spans, 5), (((5, 10),) + spans, (5, 10), ()))
        self.assertEqual(sessions.joined(spans, 6), (((6, 15), (18, 30), (50, 55)), (6, 15), ((10, 15),)))
        self.assertEqual(sessions.joined(spans, 14), (((10, 30), (50, 55)), (10, 30), ((10, 15), (18, 30))))
        self.assertEqual(sessions.joined(spans, 13), (((10, 18), (18, 30), (50, 55)), (10, 18), ((10, 15),)))
        self.assertEqual(sessions.joined(spans, 20), (spans, (18, 30), ((18, 30),)))
        self.assertEqual(sessions.joined(spans, 30), (((10, 15), (18, 30), (30, 35), (50, 55)), (30, 35), ()))
        self.assertEqual(sessions.joined(spans, 29), (((10, 15), (18, 34), (50, 55)), (18, 34), ((18, 30),)))

    def test_times_in_any_order_give_the_same_spans(self):
        for seed in range(100):
            chance = random.Random(seed)
            gap = chance.randrange(1, 6)
            times = [chance.randrange(60) for _ in range(chance.randrange(1, 12))]
            found, wanted = (), []
            for time in times:
                before = found
                found, span, inner = Sessions(gap).joined(found, time)
                self.assertTrue(span in found and span[0] <= time < span[1])
                self.assertEqual(sorted(set(before) - set(inner)), sorted(set(found) - {span}))
                self.assertTrue(set(inner) <= set(before))
            for time in sorted(times):
                if wanted and time < wanted[-1][1]:
                    wanted[-1] = (wanted[-1][0], time + gap)
                else:
                    wanted.append((time, time + gap))
            self.assertEqual(found, tuple(wanted))


if __name__ == "__main__":
    unittest.main()
