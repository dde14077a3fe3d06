"""[25]: a job that is exchanged for another one while it runs."""

import unittest

from streamstack.errors import JobError
from streamstack.jobs import Job
from streamstack.logs import Log
from streamstack.running import Cluster
from streamstack.scripts import parse_job
from streamstack.upgrades import Upgrade

OLD = "s = source a int\no = sink of s"
NEW = "s = source a int\nb = each of s where a > 1 pick a * 10 as a\no = sink of b\nn = sink of s"


def log_of(many, parts=2):
    """Return a log with so many records in each part, whose rows are numbers from 1 on."""
    log = Log(parts)
    for number, part in enumerate(log.parts):
        for place in range(many):
            part.append(("k",), (place + 1 + number * 100,), place)
    return log


def run_out(cluster):
    while cluster.act(0) is not None:
        pass


def rows(told):
    return sorted(row[0] for _, row, _ in told)


class Upgrades(unittest.TestCase):
    def upgrade(self, many=2, tasks=1, late=3):
        self.log = log_of(many)
        return Upgrade(parse_job(OLD), {"s": self.log}, late, tasks)

    def test_fields(self):
        job = parse_job(OLD)
        upgrade = Upgrade(job, {"s": Log(1)})
        self.assertEqual((upgrade.late, upgrade.many, upgrade.fresh), (0, 1, None))
        self.assertIs(upgrade.job, job)
        self.assertIsInstance(upgrade.live, Cluster)
        upgrade = Upgrade(job, {"s": Log(1)}, late=4, many=3)
        self.assertEqual((upgrade.late, upgrade.many, upgrade.live.late, upgrade.live.many), (4, 3, 4, 3))
        self.assertIs(upgrade.live.job, job)

    def test_jobs_that_cannot_run(self):
        for job, logs, late, many in ((Job(), {}, 0, 1), (parse_job(OLD), {}, 0, 1), (parse_job(OLD), {"s": Log(1)}, -1, 1),
                                      (parse_job(OLD), {"s": Log(1)}, 0, 9)):
            with self.assertRaises(JobError):
                Upgrade(job, logs, late, many)

    def test_the_new_one_runs_as_the_one_that_counts(self):
        upgrade = self.upgrade(tasks=3)
        self.assertIsNone(upgrade.begin(parse_job(NEW)))
        self.assertEqual((upgrade.fresh.many, upgrade.fresh.late, upgrade.fresh.logs["s"]), (3, 3, self.log))
        upgrade.drop()
        upgrade.live.scale(2)
        upgrade.begin(parse_job(NEW))
        self.assertEqual((upgrade.fresh.many, upgrade.live.many), (2, 2))

    def test_an_upgrade_while_one_runs_and_with_other_sources(self):
        upgrade = self.upgrade()
        for text in ("q = source a int\no = sink of q", "s = source a int\nr = source a int\no = sink of s", ""):
            with self.assertRaises(JobError):
                upgrade.begin(parse_job(text))
            self.assertIsNone(upgrade.fresh)
        upgrade.begin(parse_job(NEW))
        fresh = upgrade.fresh
        for text in (NEW, OLD, "q = source a int"):
            with self.assertRaises(JobError):
                upgrade.begin(parse_job(text))
            self.assertIs(upgrade.fresh, fresh)

    def test_without_an_upgrade(self):
        upgrade = self.upgrade()
        live, job = upgrade.live, upgrade.job
        for call in (upgrade.drop, upgrade.behind, upgrade.switch):
            with self.assertRaises(JobError):
                call()
            self.assertIsNone(upgrade.fresh)
            self.assertIs(upgrade.live, live)
            self.assertIs(upgrade.job, job)

    def test_giving_it_up(self):
        upgrade = self.upgrade()
        upgrade.begin(parse_job(NEW))
        upgrade.act(0)
        self.assertIsNone(upgrade.drop())
        self.assertIsNone(upgrade.fresh)
        self.assertEqual(upgrade.act(0), 1)
        upgrade.begin(parse_job(NEW))
        self.assertEqual(upgrade.fresh.read_places(), {("s", 0): (0, 0), ("s", 1): (0, 0)})
        upgrade.drop()
        self.assertEqual({name: rows(told) for name, told in upgrade.finish().items()}, {"o": [1, 2, 101, 102]})

    def test_a_move_in_each_cluster(self):
        upgrade = self.upgrade(1)
        self.assertEqual(upgrade.act(5), 1)
        self.assertEqual(upgrade.live.read_places(), {("s", 0): (0, 0), ("s", 1): (1, 0)})
        run_out(upgrade.live)
        self.assertEqual(upgrade.act(0), 0)
        upgrade.begin(parse_job(NEW))
        self.assertEqual(upgrade.act(0), 1)
        self.log.parts[0].append(("k",), (7,), 1)
        self.assertEqual(upgrade.act(0), 2)
        self.assertEqual((upgrade.live.read_places()[("s", 0)], upgrade.fresh.read_places()[("s", 0)]), ((2, 1), (2, 1)))

    def test_how_far_behind(self):
        upgrade = self.upgrade(3)
        upgrade.begin(parse_job(NEW))
        self.assertEqual(upgrade.behind(), 0)
        upgrade.drop()
        for _ in range(4):
            upgrade.live.act(0)
        self.assertEqual(upgrade.live.read_places(), {("s", 0): (3, 2), ("s", 1): (1, 0)})
        upgrade.begin(parse_job(NEW))
        found = []
        for choice in (1, 1, 1, 0, 0, 0):
            found.append(upgrade.behind())
            self.assertEqual(upgrade.fresh.act(choice)[:2], ("read", ("s", 0)))
        # Two of the other part's were read that the live one has not read; they make up for none.
        self.assertEqual(found + [upgrade.behind()], [4, 3, 3, 3, 2, 1, 0])
        run_out(upgrade.live)
        self.assertEqual(upgrade.behind(), 0)
        self.log.parts[0].append(("k",), (7,), 9)
        self.assertEqual(upgrade.behind(), 0)
        upgrade.live.act(0)
        self.assertEqual(upgrade.behind(), 1)

    def test_switching_too_early_and_in_time(self):
        upgrade = self.upgrade(2)
        old, new, live = upgrade.job, parse_job(NEW), upgrade.live
        run_out(live)
        live.begin_snapshot()
        run_out(live)
        upgrade.begin(new)
        fresh = upgrade.fresh
        for _ in range(3):
            self.assertIs(upgrade.switch(), False)
            upgrade.act(0)
        self.assertEqual((upgrade.behind(), rows(upgrade.live.store.counts_of("o"))), (1, [1, 2, 101, 102]))
        self.assertIs(upgrade.job, old)
        self.log.parts[0].append(("k",), (3,), 5)
        upgrade.fresh.act(0)
        upgrade.fresh.act(0)
        upgrade.live.act(0)
        self.assertEqual(upgrade.behind(), 0)
        self.assertIs(upgrade.switch(), True)
        self.assertIs(upgrade.job, new)
        self.assertIs(upgrade.live, fresh)
        self.assertIsNone(upgrade.fresh)
        # Nothing of what the elder one gave counts any more, and all that the new one gives from the beginning on.
        self.assertEqual(upgrade.live.store.counted, [])
        self.assertEqual({name: rows(told) for name, told in upgrade.finish().items()},
                         {"o": [20, 30, 1010, 1020], "n": [1, 2, 3, 101, 102]})

    def test_without_a_switch_the_elder_one_counts(self):
        upgrade = self.upgrade(2)
        upgrade.begin(parse_job(NEW))
        run_out(upgrade.fresh)
        self.assertEqual({name: rows(told) for name, told in upgrade.finish().items()}, {"o": [1, 2, 101, 102]})

    def test_another_upgrade_behind_a_switch(self):
        upgrade = self.upgrade(2)
        upgrade.begin(parse_job(NEW))
        self.assertIs(upgrade.switch(), True)
        upgrade.begin(parse_job(OLD))
        run_out(upgrade.fresh)
        self.assertIs(upgrade.switch(), True)
        self.assertEqual(rows(upgrade.finish()["o"]), [1, 2, 101, 102])

    def test_logs_that_were_cut_off_before(self):
        upgrade = self.upgrade(3)
        for _ in range(4):
            upgrade.live.act(0)
        upgrade.live.begin_snapshot()
        while upgrade.live.store.under_way is not None:
            upgrade.live.act(-1)
        self.log.parts[0].trim(2)
        upgrade.begin(parse_job(NEW))
        self.assertEqual(upgrade.fresh.read_places(), {("s", 0): (2, 0), ("s", 1): (0, 0)})
        self.assertEqual(upgrade.behind(), 2)
        run_out(upgrade.fresh)
        self.assertIs(upgrade.switch(), True)
        self.assertEqual(rows(upgrade.finish()["n"]), [3, 101, 102, 103])

    def test_logs_that_are_cut_off_while_the_new_one_catches_up(self):
        upgrade = self.upgrade(3)
        run_out(upgrade.live)
        upgrade.begin(parse_job(NEW))
        self.assertEqual(upgrade.behind(), 6)
        self.log.parts[0].trim(2)
        self.log.parts[1].trim(3)
        self.assertEqual((upgrade.behind(), upgrade.switch()), (1, False))
        run_out(upgrade.fresh)
        self.assertEqual((upgrade.behind(), upgrade.switch()), (0, True))
        self.assertEqual(rows(upgrade.finish()["n"]), [3])


if __name__ == "__main__":
    unittest.main()
