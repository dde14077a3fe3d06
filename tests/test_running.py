"""[15] and [16]: tasks, to whom records go, times that are told, what is too late; going down, scaling, logs cut off."""

import random
import unittest

from streamstack.errors import JobError, SnapshotError
from streamstack.jobs import Job, record_rank, whole
from streamstack.logs import Log
from streamstack.running import Cluster, Reader, Task
from streamstack.scripts import parse_job
from streamstack.states import group_of, state_of

SUMS = "s = source a int\nt = total of s each 10 by 10 : sum a as total\no = sink of t"
PLAIN = "s = source a int\ne = each of s where a > 0\no = sink of e"
GROUPED = """s = source a int
r = source b int
k = key of s by a
t = total of k each 5 by 5 : count as n
q = session of k within 5 : count as n
m = meet of k and r within 5
j = join of k and k
t_out = sink of t
q_out = sink of q
m_out = sink of m
j_out = sink of j"""


def log_of(parts, *times):
    """Return a log whose part n has records of the n-th times, each row a number of its own."""
    log = Log(parts)
    for number, told in enumerate(times):
        for place, time in enumerate(told):
            log.parts[number].append((f"k{number}",), (number * 100 + place + 1,), time)
    return log


def run_out(cluster, choice=0):
    moves = []
    move = cluster.act(choice)
    while move is not None:
        moves.append(move)
        move = cluster.act(choice)
    return moves


def state(cluster):
    """Return all that moves and what counts hang on."""
    store = cluster.store
    tasks = []
    for place, task in cluster.tasks.items():
        if isinstance(task, Reader):
            tasks.append((place, dict(task.parts), list(task.orders), task.closed))
        else:
            queues = {channel: list(queue) for channel, queue in task.channels.items()}
            tasks.append((place, queues, task.state.shown(), task.marks.now, list(task.given), sorted(task.waiting)))
    return (cluster.many, tasks, store.last.number, store.under_way is None, list(store.counted), cluster.moves())


class Made(unittest.TestCase):
    def test_fields(self):
        job = parse_job(PLAIN)
        cluster = Cluster(job, {"s": Log(2)})
        self.assertEqual((cluster.late, cluster.many, cluster.store.last.number), (0, 1, 0))
        self.assertIs(cluster.job, job)
        self.assertEqual(list(cluster.tasks), [("s", 0), ("e", 0), ("o", 0)])
        self.assertEqual([(task.name, task.number) for task in cluster.tasks.values()], list(cluster.tasks))
        log = Log(1)
        reader = Reader("s", 3, log, 5)
        self.assertEqual((reader.name, reader.number, reader.late, reader.parts), ("s", 3, 5, {}))
        self.assertIs(reader.log, log)
        task = Task("e", 2, state_of(job, "e"))
        self.assertEqual((task.name, task.number), ("e", 2))

    def test_one_task_and_eight_none_and_nine(self):
        job = parse_job(PLAIN)
        for many in (1, 8):
            cluster = Cluster(job, {"s": Log(2)}, 0, many)
            self.assertEqual(list(cluster.tasks), [(name, n) for name in ("s", "e", "o") for n in range(many)])
        for many in (0, 9, -1):
            with self.assertRaises(JobError):
                Cluster(job, {"s": Log(2)}, 0, many)
            with self.assertRaises(JobError):
                Cluster(job, {"s": Log(2)}, many=many)

    def test_a_job_without_steps_other_sources_and_lateness_below_0(self):
        job = parse_job(GROUPED)
        with self.assertRaises(JobError):
            Cluster(Job(), {})
        for logs in ({}, {"s": Log(1)}, {"s": Log(1), "q": Log(1)}, {"s": Log(1), "r": Log(1), "q": Log(1)}):
            with self.assertRaises(JobError):
                Cluster(job, logs)
        with self.assertRaises(JobError):
            Cluster(job, {"r": Log(1), "s": Log(1)}, -1)
        self.assertEqual(Cluster(job, {"r": Log(1), "s": Log(3)}, late=7).late, 7)

    def test_the_parts_of_sources(self):
        for many in (1, 2, 3, 5, 8):
            cluster = Cluster(parse_job(PLAIN), {"s": Log(5)}, many=many)
            for number in range(many):
                self.assertEqual(sorted(cluster.tasks[("s", number)].parts), [n for n in range(5) if n % many == number])
            self.assertEqual(cluster.read_places(), {("s", part): (0, 0) for part in range(5)})


class Moving(unittest.TestCase):
    def test_nothing_may_happen(self):
        cluster = Cluster(parse_job(PLAIN), {"s": Log(2)})
        self.assertEqual((cluster.moves(), cluster.act(0), cluster.act(7)), ([], None, None))

    def test_the_order_of_moves(self):
        cluster = Cluster(parse_job(GROUPED), {"s": log_of(3, (1, 2), (1,), (1,)), "r": log_of(2, (1,))}, many=2)
        self.assertEqual(cluster.moves(), [("read", ("s", 0), 0), ("read", ("s", 0), 2), ("read", ("s", 1), 1),
                                           ("read", ("r", 0), 0)])
        cluster.begin_snapshot()
        self.assertEqual(cluster.moves(), [
            ("read", ("s", 0), 0), ("read", ("s", 0), 2), ("order", ("s", 0)), ("read", ("s", 1), 1), ("order", ("s", 1)),
            ("read", ("r", 0), 0), ("order", ("r", 0)), ("order", ("r", 1))])
        cluster.act(0)
        self.assertEqual([move[:2] for move in cluster.moves()][-2:], [("order", ("r", 1)), ("take", ("k", 0))])

    def test_a_choice_is_its_remainder(self):
        cluster = Cluster(parse_job(PLAIN), {"s": log_of(3, (1,), (2,), (3,))})
        self.assertEqual(cluster.act(7), ("read", ("s", 0), 1))
        self.assertEqual(cluster.read_places(), {("s", 0): (0, 0), ("s", 1): (1, 2), ("s", 2): (0, 0)})
        self.assertEqual(cluster.act(3)[:2], ("read", ("s", 0)))

    def test_a_source_that_nobody_reads(self):
        cluster = Cluster(parse_job("s = source a int"), {"s": log_of(1, (1, 2))})
        self.assertEqual(run_out(cluster), [("read", ("s", 0), 0)] * 2)
        self.assertEqual((cluster.finish(), cluster.store.last.places), ({}, {("s", 0): (2, 2)}))

    def takes(self, cluster):
        return [move for move in cluster.moves() if move[0] == "take"]

    def test_records_go_by_group_or_to_the_same_number(self):
        for many in (1, 2, 3, 8):
            for number in range(many):
                cluster = Cluster(parse_job(GROUPED), {"s": Log(1), "r": Log(1)}, many=many)
                record = (("north", number * 7), (5,), 3)
                owner = group_of(record[0]) * many // 32
                cluster.send(("k", number), record)
                self.assertEqual([move[1] for move in self.takes(cluster)],
                                 [("t", owner), ("q", owner), ("m", owner), ("j", number), ("j", number)])
                cluster = Cluster(parse_job(GROUPED), {"s": Log(1), "r": Log(1)}, many=many)
                cluster.send(cluster.tasks[("r", number)], record)
                self.assertEqual([move[1] for move in self.takes(cluster)], [("m", owner)])

    def test_taking_what_came_first(self):
        cluster = Cluster(parse_job(PLAIN), {"s": Log(1)})
        cluster.send(("s", 0), (("k",), (1,), 3))
        cluster.send(("s", 0), (("k",), (0,), 3))
        cluster.send(("s", 0), (("k",), (2,), 3))
        _, task, channel = cluster.moves()[0]
        self.assertIsNone(cluster.take(task, channel))
        self.assertEqual([move[1] for move in cluster.moves()], [("e", 0), ("o", 0)])
        cluster.take(task, channel)
        cluster.take(task, channel)
        self.assertEqual([move[1] for move in cluster.moves()], [("o", 0)])
        cluster.take(task, channel)
        self.assertEqual([move[1] for move in cluster.moves()], [("o", 0)])
        run_out(cluster)
        cluster.begin_snapshot()
        run_out(cluster)
        self.assertEqual(cluster.store.counts_of("o"), ((("k",), (1,), 3), (("k",), (2,), 3)))


class Times(unittest.TestCase):
    def told(self, cluster, many):
        """Return how many messages come behind each of so many readings."""
        found = []
        for _ in range(many):
            before = sum(len(queue) for queue in cluster.tasks[("e", 0)].channels.values())
            cluster.act(0)
            found.append(sum(len(queue) for queue in cluster.tasks[("e", 0)].channels.values()) - before)
        return found

    def test_a_time_is_told_behind_a_record_only_if_it_is_greater(self):
        cluster = Cluster(parse_job(PLAIN), {"s": log_of(1, (0, 3, 3, 2, 4))})
        self.assertEqual(self.told(cluster, 5), [1, 2, 1, 1, 2])
        cluster = Cluster(parse_job(PLAIN), {"s": log_of(1, (2, 3, 2, 4, 3))}, late=2)
        self.assertEqual(self.told(cluster, 5), [1, 2, 1, 2, 1])

    def test_the_least_of_a_readers_parts_counts(self):
        cluster = Cluster(parse_job(PLAIN), {"s": log_of(2, (5, 9), (3, 7))})
        self.assertEqual(self.told(cluster, 4), [1, 1, 2, 2])
        self.assertEqual(cluster.tasks[("e", 0)].channels[(0, 0)][3:], [("time", 3), ("record", (("k1",), (102,), 7)),
                                                                      ("time", 7)])

    def test_the_greatest_time_of_a_part_stays(self):
        cluster = Cluster(parse_job(PLAIN), {"s": log_of(1, (5, 3, 4))}, late=2)
        run_out(cluster)
        self.assertEqual(cluster.read_places(), {("s", 0): (3, 5)})
        cluster.begin_snapshot()
        run_out(cluster)
        cluster.crash()
        cluster.tasks[("s", 0)].log.parts[0].append(("k",), (9,), 4)
        self.assertEqual(self.told(cluster, 1), [2])
        self.assertEqual(cluster.tasks[("e", 0)].channels[(0, 0)][1], ("time", 3))

    def counts(self, cluster):
        run_out(cluster)
        cluster.begin_snapshot()
        run_out(cluster)
        return [row[0] for _, row, _ in cluster.store.counts_of("o")]

    def test_windows_come_when_all_channels_have_come_to_their_ends(self):
        log = log_of(2, (3, 9), (12,))
        cluster = Cluster(parse_job(SUMS), {"s": log})
        self.assertEqual(self.counts(cluster), [])
        log.parts[0].append(("k0",), (5,), 10)
        self.assertEqual(self.counts(cluster), [0])
        self.assertEqual(cluster.late_records(), 0)
        cluster = Cluster(parse_job(SUMS), {"s": log}, 1)
        self.assertEqual(self.counts(cluster), [])

    def test_a_task_without_parts_tells_that_all_is_over(self):
        for many, over in ((2, [1]), (3, [1, 2])):
            cluster = Cluster(parse_job(SUMS), {"s": log_of(1, (3, 10))}, many=many)
            self.assertEqual(cluster.moves(), [("read", ("s", 0), 0)] + [("over", ("s", number)) for number in over])
            self.assertEqual(self.counts(cluster), [0])
            self.assertEqual(cluster.moves(), [])

    def test_a_closed_reader_that_has_nothing_left_tells_that_all_is_over(self):
        cluster = Cluster(parse_job(SUMS), {"s": log_of(2, (3, 50), ())})
        self.assertEqual(self.counts(cluster), [])
        for task in cluster.tasks.values():
            task.closed = True
        self.assertEqual(cluster.moves(), [("over", ("s", 0))])
        self.assertEqual(self.counts(cluster), [0, 50])
        cluster.begin_snapshot()
        self.assertEqual(cluster.moves(), [("order", ("s", 0))])

    def test_a_closed_reader_reads_first(self):
        cluster = Cluster(parse_job(PLAIN), {"s": log_of(1, (3, 4))})
        cluster.tasks[("s", 0)].closed = True
        self.assertEqual(cluster.moves(), [("read", ("s", 0), 0)])
        cluster.act(0)
        self.assertEqual(cluster.moves()[0], ("read", ("s", 0), 0))
        cluster.act(0)
        self.assertEqual(cluster.moves()[0], ("over", ("s", 0)))

    def test_times_beyond_all_that_is_told(self):
        far = 10 ** 40
        cluster = Cluster(parse_job(SUMS), {"s": log_of(1, (3, far))}, many=2)
        self.assertEqual([row for _, row, _ in cluster.finish()["o"]], [(0, 10, 1), (far, far + 10, 2)])


class Late(unittest.TestCase):
    TEXT = "s = source a int\nt = total of s each 10 by 5 : count as n\no = sink of t"

    def test_late_by_just_what_is_told(self):
        for late, wanted in ((5, 0), (4, 1), (0, 1)):
            cluster = Cluster(parse_job(self.TEXT), {"s": log_of(1, (9, 14, 9, 20, 15))}, late)
            run_out(cluster, -1)
            self.assertEqual(cluster.late_records() > 0, wanted > 0, late)
        cluster = Cluster(parse_job(self.TEXT), {"s": log_of(1, (14, 9))}, 4)
        run_out(cluster)
        self.assertEqual((cluster.late_records(), [row for _, row, _ in cluster.finish()["o"]]),
                         (1, [(5, 15, 2), (10, 20, 1)]))

    def test_once_for_each_window_and_anew_with_new_tasks(self):
        cluster = Cluster(parse_job(self.TEXT), {"s": log_of(1, (30, 9, 8))})
        run_out(cluster)
        self.assertEqual(cluster.late_records(), 4)
        cluster.crash()
        self.assertEqual(cluster.late_records(), 0)

    def test_sessions(self):
        text = "s = source a int\nt = session of s within 5 : count as n\no = sink of t"
        cluster = Cluster(parse_job(text), {"s": log_of(1, (10, 14, 6, 8, 4))})
        run_out(cluster)
        # The span up to 11 that 6 has alone shares times with that of 10 and 14; so do the others.
        self.assertEqual((cluster.late_records(), [row for _, row, _ in cluster.finish()["o"]]), (0, [(4, 19, 5)]))
        cluster = Cluster(parse_job(text), {"s": log_of(1, (20, 15, 14, 9))})
        run_out(cluster)
        self.assertEqual(cluster.late_records(), 3)


class Going(unittest.TestCase):
    def snapshot(self, cluster, choice=0):
        number = cluster.begin_snapshot()
        while cluster.store.under_way is not None:
            cluster.act(choice)
        return number

    def counts(self, cluster):
        return [row[0] for _, row, _ in cluster.store.counts_of("o")]

    def test_a_snapshot(self):
        log = log_of(2, (3, 12), (4,))
        cluster = Cluster(parse_job(SUMS), {"s": log})
        self.assertEqual((cluster.act(0), cluster.begin_snapshot()), (("read", ("s", 0), 0), 1))
        before = state(cluster)
        with self.assertRaises(SnapshotError):
            cluster.begin_snapshot()
        self.assertEqual(state(cluster), before)
        self.assertEqual(cluster.act(2), ("order", ("s", 0)))
        run_out(cluster)
        last = cluster.store.last
        self.assertEqual((last.number, last.places), (1, {("s", 0): (1, 3), ("s", 1): (0, 0)}))
        self.assertEqual(last.kept, {("t", group_of(("k0",))): (((("k0",), (0, 10)), ((1,),)),)})
        self.assertEqual(cluster.read_places(), {("s", 0): (2, 12), ("s", 1): (1, 4)})

    def test_channels_wait_until_the_others_have_come(self):
        cluster = Cluster(parse_job(SUMS), {"s": log_of(2, (3,), (4,))}, many=2)
        cluster.begin_snapshot()
        self.assertEqual(cluster.act(1), ("order", ("s", 0)))
        self.assertEqual(cluster.act(0), ("read", ("s", 0), 0))
        owner = group_of(("k0",)) // 16
        takes = [move for move in cluster.moves() if move[0] == "take"]
        self.assertEqual(takes, [("take", ("t", 0), (0, 0)), ("take", ("t", 1), (0, 0))])
        cluster.take(*takes[owner][1:])
        # The record came behind the snapshot over that channel, so it waits for the other one.
        self.assertNotIn(takes[owner], cluster.moves())
        cluster.take(*takes[owner][1:])
        self.assertEqual(cluster.tasks[("t", owner)].state.shown(), {})
        run_out(cluster)
        self.assertEqual((cluster.store.last.number, cluster.store.last.places),
                         (1, {("s", 0): (0, 0), ("s", 1): (1, 4)}))

    def test_crashes_ahead_of_the_first_whole_snapshot(self):
        cluster = Cluster(parse_job(PLAIN), {"s": log_of(2, (3, 12), (4,))})
        run_out(cluster)
        self.assertEqual(cluster.crash(), None)
        self.assertEqual((cluster.read_places(), self.counts(cluster)), ({("s", 0): (0, 0), ("s", 1): (0, 0)}, []))
        self.assertEqual(sorted(row for _, row, _ in cluster.finish()["o"]), [(1,), (2,), (101,)])

    def test_crashes_while_one_is_under_way_and_behind_one(self):
        log = log_of(1, (3, 4, 5))
        cluster = Cluster(parse_job(PLAIN), {"s": log})
        cluster.act(0)
        self.snapshot(cluster, -1)
        self.assertEqual((self.counts(cluster), cluster.store.last.places), ([1], {("s", 0): (1, 3)}))
        run_out(cluster)
        self.assertEqual(cluster.begin_snapshot(), 2)
        while len(cluster.moves()) > 0 and cluster.store.lacking != {("o", 0): True}:
            cluster.act(0)
        cluster.crash()
        self.assertEqual((self.counts(cluster), cluster.store.last.number, cluster.store.under_way), ([1], 1, None))
        self.assertEqual(cluster.read_places(), {("s", 0): (1, 3)})
        self.assertEqual(cluster.moves(), [("read", ("s", 0), 0)])
        run_out(cluster)
        self.assertEqual(self.snapshot(cluster), 2)
        self.assertEqual(self.counts(cluster), [1, 2, 3])
        cluster.crash()
        self.assertEqual((run_out(cluster), cluster.read_places()), ([], {("s", 0): (3, 5)}))
        self.assertEqual([row[0] for _, row, _ in cluster.finish()["o"]], [1, 2, 3])

    def test_coming_up_by_more_and_by_fewer_tasks(self):
        for first, second in ((1, 8), (8, 1), (3, 5), (5, 3), (2, 2)):
            log = log_of(4, (3, 8), (4,), (2, 6, 9), (1,))
            cluster = Cluster(parse_job(SUMS), {"s": log}, many=first)
            for _ in range(3):
                cluster.act(0)
            self.snapshot(cluster, -1)
            places = cluster.store.last.places
            kept = cluster.store.last.kept
            cluster.crash(second)
            self.assertEqual((cluster.many, len(cluster.tasks), cluster.read_places()), (second, 3 * second, places))
            shown = {("t", group): told for n in range(second)
                     for group, told in cluster.tasks[("t", n)].state.shown().items()}
            self.assertEqual(shown, kept)
            for number in range(second):
                self.assertTrue(all(group * second // 32 == number
                                    for group in cluster.tasks[("t", number)].state.shown()))
            self.assertEqual(sorted(row[2] for _, row, _ in cluster.finish()["o"]), [3, 101, 301, 201 + 202 + 203])

    def test_numbers_of_tasks_that_cannot_be(self):
        cluster = Cluster(parse_job(SUMS), {"s": log_of(2, (3, 12), (4,))}, many=2)
        for _ in range(3):
            cluster.act(1)
        for begun in (False, True):
            if begun:
                cluster.begin_snapshot()
            before = state(cluster)
            for many in (0, 9, -1):
                with self.assertRaises(JobError):
                    cluster.crash(many)
                with self.assertRaises(JobError):
                    cluster.scale(many)
                self.assertEqual(state(cluster), before)

    def test_scaling_with_records_under_way(self):
        cluster = Cluster(parse_job(PLAIN), {"s": log_of(3, (3, 12), (4,), (5, 6))}, many=2)
        for _ in range(3):
            cluster.act(0)
        places = cluster.read_places()
        self.assertEqual(cluster.scale(3), 0)
        self.assertEqual((cluster.many, cluster.read_places(), len(self.counts(cluster))), (3, places, 3))
        self.assertEqual((cluster.store.last.number, cluster.store.under_way), (1, None))
        self.assertEqual(cluster.scale(1), 0)
        self.assertEqual(cluster.read_places(), places)
        self.assertEqual(sorted(row[0] for _, row, _ in cluster.finish()["o"]), [1, 2, 101, 201, 202])

    def test_scaling_while_a_snapshot_is_under_way(self):
        cluster = Cluster(parse_job(PLAIN), {"s": log_of(2, (3,), (4,))})
        cluster.begin_snapshot()
        before = state(cluster)
        with self.assertRaises(SnapshotError):
            cluster.scale(2)
        self.assertEqual(state(cluster), before)
        run_out(cluster)
        self.assertEqual(cluster.scale(2), 0)

    def test_logs_cut_off_up_to_the_places_of_the_last_snapshot(self):
        log = log_of(2, (3, 4, 12), (4, 5))
        cluster = Cluster(parse_job(PLAIN), {"s": log})
        for _ in range(3):
            cluster.act(0)
        self.snapshot(cluster, -1)
        for (_, part), (place, _) in cluster.store.last.places.items():
            log.parts[part].trim(place)
        run_out(cluster)
        cluster.crash(2)
        log.parts[1].append(("k",), (7,), 6)
        self.assertEqual(sorted(row[0] for _, row, _ in cluster.finish()["o"]), [1, 2, 3, 7, 101, 102])

    def test_logs_that_were_cut_off_before(self):
        log = log_of(1, (3, 4, 12))
        log.parts[0].trim(2)
        cluster = Cluster(parse_job(PLAIN), {"s": log})
        self.assertEqual(cluster.read_places(), {("s", 0): (2, 0)})
        run_out(cluster)
        cluster.crash()
        self.assertEqual((cluster.read_places(), [row[0] for _, row, _ in cluster.finish()["o"]]), ({("s", 0): (2, 0)}, [3]))

    def test_what_counts_by_snapshots_and_in_each_by_tasks(self):
        cluster = Cluster(parse_job(PLAIN), {"s": log_of(3, (3, 4), (5,), (1, 2))}, many=3)
        self.assertEqual(cluster.act(2), ("read", ("s", 2), 2))
        cluster.act(0)
        self.snapshot(cluster, -1)
        first = self.counts(cluster)
        run_out(cluster, 5)
        self.snapshot(cluster, 3)
        self.assertEqual(first, sorted(first))
        second = self.counts(cluster)[len(first):]
        self.assertEqual((self.counts(cluster)[:len(first)], second), (first, sorted(second)))
        self.assertEqual(sorted(first + second), [1, 2, 101, 201, 202])

    def test_finishing(self):
        job = parse_job(GROUPED)
        logs = {"s": log_of(2, (3, 4), (5,)), "r": log_of(1, (4,))}
        cluster = Cluster(job, logs, many=3)
        cluster.begin_snapshot()
        cluster.act(0)
        found = cluster.finish()
        self.assertEqual(list(found), ["t_out", "q_out", "m_out", "j_out"])
        sources = {name: [one for part in log.parts for one in part.records] for name, log in logs.items()}
        self.assertEqual({name: sorted(told, key=record_rank) for name, told in found.items()}, whole(job, sources))
        self.assertEqual((cluster.store.last.number, cluster.moves()), (2, []))
        self.assertEqual(cluster.finish(), found)
        cluster.crash(2)
        # Nothing more comes, also behind a crash.
        self.assertEqual(cluster.moves(), [("over", (name, number)) for name in "sr" for number in (0, 1)])
        self.assertEqual(cluster.finish(), found)

    def test_finishing_with_nothing_there(self):
        cluster = Cluster(parse_job(SUMS), {"s": Log(2)}, many=4)
        self.assertEqual({name: list(told) for name, told in cluster.finish().items()}, {"o": []})


if __name__ == "__main__":
    unittest.main()
