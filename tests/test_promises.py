"""[1], whole: views have what their plans give; what counts at sinks is what whole sources give, each once."""

import random
import unittest

from drawn import draw_job, draw_records
from streamstack.bags import Bag, same_bags
from streamstack.errors import QueryError, SnapshotError
from streamstack.jobmoves import fewer_steps
from streamstack.jobs import record_rank, whole
from streamstack.logs import Log
from streamstack.plans import Sources, given
from streamstack.queries import parse_query
from streamstack.running import Cluster
from streamstack.upgrades import Upgrade
from streamstack.views import View


def deal(chance, log, records, ahead):
    """Add a record of a list to a part of a log, whichever; the records of a part stand in the list's order."""
    key, row, time = records[ahead]
    log.parts[chance.randrange(len(log.parts))].append(key, row, time)


def counted(store):
    """Return a table of (sink, record) to how often it counts."""
    found = {}
    for pair in store.counted:
        found[pair] = found.get(pair, 0) + 1
    return found


class Runs:
    """A drawn job, drawn records that come to its logs one by one, and the cluster that runs it."""

    def __init__(self, seed):
        self.chance = random.Random(seed)
        chance = self.chance
        self.job = draw_job(chance, chance.randrange(2, 8))
        self.late = chance.choice((0, 0, 1, 4))
        self.logs = {name: Log(chance.randrange(1, 5)) for name in self.job.of_class("source")}
        self.left = {name: draw_records(chance, chance.randrange(1, 16), self.late) for name in self.logs}
        self.sources = {name: list(records) for name, records in self.left.items()}
        self.cluster = Cluster(self.job, self.logs, self.late, chance.randrange(1, 9))

    def grow(self):
        """Let a record come to a log, if one is left."""
        names = [name for name, records in self.left.items() if records]
        if names:
            name = self.chance.choice(names)
            deal(self.chance, self.logs[name], self.left[name], 0)
            del self.left[name][0]

    def step(self):
        """Let one thing happen that may."""
        chance = self.chance
        what = chance.randrange(60)
        if what < 12:
            self.grow()
        elif what in (12, 16, 17) and self.cluster.store.under_way is None:
            self.cluster.begin_snapshot()
        elif what == 13:
            self.cluster.crash(chance.choice((None, None, chance.randrange(1, 9))))
        elif what == 14 and self.cluster.store.under_way is None:
            places = self.cluster.read_places()
            assert self.cluster.scale(chance.randrange(1, 9)) == 0
            assert self.cluster.read_places() == places
        elif what == 15:
            for (name, part), (place, _) in self.cluster.store.last.places.items():
                self.logs[name].parts[part].trim(place)
        else:
            for _ in range(chance.randrange(1, 40)):
                self.cluster.act(chance.randrange(1000))


class Exactly(unittest.TestCase):
    def test_what_counts_is_part_of_what_whole_gives_and_in_the_end_just_that(self):
        some = 0
        for seed in range(160):
            run = Runs(seed)
            wanted = whole(run.job, run.sources)
            often = {}
            for sink, records in wanted.items():
                for record in records:
                    often[(sink, record)] = often.get((sink, record), 0) + 1
            seen = []
            for _ in range(run.chance.randrange(20, 120)):
                run.step()
                self.assertEqual(run.cluster.late_records(), 0, seed)
                self.assertEqual(run.cluster.store.counted[:len(seen)], seen)
                if len(run.cluster.store.counted) > len(seen):
                    seen = list(run.cluster.store.counted)
                    now = counted(run.cluster.store)
                    self.assertTrue(all(now[pair] <= often.get(pair, 0) for pair in now), seed)
                    some += 1
            while any(run.left.values()):
                run.grow()
            found = run.cluster.finish()
            self.assertEqual({sink: sorted(told, key=record_rank) for sink, told in found.items()}, wanted, seed)
            self.assertEqual((run.cluster.late_records(), run.cluster.act(0)), (0, None))
        self.assertGreater(some, 150)

    def test_a_job_of_fewer_steps_counts_the_same(self):
        for seed in range(40):
            run = Runs(1000 + seed)
            cluster = Cluster(fewer_steps(run.job), run.logs, run.late, run.chance.randrange(1, 9))
            while any(run.left.values()):
                run.grow()
            self.assertEqual({sink: sorted(told, key=record_rank) for sink, told in cluster.finish().items()},
                             whole(run.job, run.sources), seed)


class Upgraded(unittest.TestCase):
    def test_what_counts_before_and_behind_switches(self):
        switched = 0
        for seed in range(60):
            run = Runs(2000 + seed)
            chance = run.chance
            upgrade = Upgrade(run.job, run.logs, run.late, run.cluster.many)
            for _ in range(60):
                what = chance.randrange(12)
                if what < 3:
                    run.grow()
                elif what == 3 and upgrade.fresh is None:
                    upgrade.begin(draw_job(chance, chance.randrange(2, 6)))
                elif what == 4 and upgrade.fresh is not None:
                    behind, counts = upgrade.behind(), list(upgrade.live.store.counted)
                    fresh = upgrade.fresh
                    self.assertEqual(upgrade.switch(), behind == 0)
                    self.assertIs(upgrade.live is fresh, behind == 0)
                    self.assertEqual(behind == 0 or counts == upgrade.live.store.counted, True)
                    switched += behind == 0
                elif what == 5:
                    cluster = chance.choice([one for one in (upgrade.live, upgrade.fresh) if one is not None])
                    try:
                        cluster.begin_snapshot()
                    except SnapshotError:
                        cluster.crash()
                else:
                    for _ in range(chance.randrange(1, 20)):
                        upgrade.act(chance.randrange(1000))
            while any(run.left.values()):
                run.grow()
            found = {sink: sorted(told, key=record_rank) for sink, told in upgrade.finish().items()}
            self.assertEqual(found, whole(upgrade.job, run.sources), seed)
        self.assertGreater(switched, 30)


class Views(unittest.TestCase):
    QUERIES = ("pick * from s", "pick once t from s where a > 0", "pick t, sum(a) as n, count() as m from s group by t",
               "pick t, a + b as c from s meet r on t = u where a >= b", "pick a from s without pick b from r",
               "pick once a from s both pick b from r", "pick count() as n from s meet r on a = b")

    def test_behind_each_change_a_view_has_what_its_plan_gives(self):
        for seed in range(40):
            chance = random.Random(seed)
            shapes = draw_job(chance, 0).shapes
            sources = Sources((("s", shapes["s"]), ("r", shapes["r"])))
            plan = parse_query(self.QUERIES[seed % len(self.QUERIES)])
            view, bags = View(plan, sources), {"s": Bag(), "r": Bag()}
            for _ in range(15):
                change = Bag()
                name = chance.choice("sr")
                for _, row, _ in draw_records(chance, chance.randrange(4)):
                    change.add(row, chance.choice((1, 2)))
                for row, weight in bags[name].rows():
                    if chance.random() < 0.3:
                        change.add(row, -chance.randrange(weight + 1))
                before = view.bag
                told = view.change({name: change})
                bags[name] = bags[name].plus(change)
                self.assertTrue(same_bags(view.bag, given(plan, bags, sources)), seed)
                self.assertTrue(same_bags(before.plus(told), view.bag))
        with self.assertRaises(QueryError):
            View(parse_query("pick * from q"), sources)


if __name__ == "__main__":
    unittest.main()
