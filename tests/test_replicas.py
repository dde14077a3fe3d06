"""[19]: copies of a part, who leads, who keeps up, the firm place, and what is refused."""

import random
import unittest

from streamstack.errors import LogError
from streamstack.replicas import Copy, Replicas

NAMES = ("b", "a", "c")


def state(replicas):
    copies = {name: (list(copy.records), copy.firm, copy.is_up) for name, copy in replicas.copies.items()}
    return (copies, replicas.leader, replicas.time, list(replicas.keeping))


def rows(replicas, name):
    return [row[0] for _, row in replicas.copies[name].records]


def started(least=1, names=NAMES, many=0):
    """Return copies, so many rows at the leader, which all others have pulled."""
    replicas = Replicas(names, least)
    for number in range(many):
        replicas.append((number,))
    for name in sorted(names):
        if name != names[0]:
            replicas.pull(name, many)
    return replicas


class Copies(unittest.TestCase):
    def test_a_fresh_copy(self):
        copy = Copy()
        self.assertEqual((copy.records, copy.firm, copy.is_up), ([], 0, True))
        self.assertEqual(copy.end_of(5), (0, 0))

    def test_the_end_of_a_time(self):
        copy = Copy()
        copy.records = [(2, (0,)), (2, (1,)), (5, (2,)), (7, (3,)), (7, (4,))]
        for time, wanted in ((0, (0, 0)), (1, (0, 0)), (2, (2, 2)), (4, (2, 2)), (5, (5, 3)), (6, (5, 3)), (7, (7, 5)),
                             (99, (7, 5))):
            self.assertEqual(copy.end_of(time), wanted)


class Made(unittest.TestCase):
    def test_the_first_name_leads_in_time_1(self):
        replicas = Replicas(NAMES, 2)
        self.assertEqual((replicas.leader, replicas.time, replicas.keeping), ("b", 1, ["a", "b", "c"]))
        self.assertEqual(sorted(replicas.copies), ["a", "b", "c"])
        self.assertEqual(state(replicas)[0], {name: ([], 0, True) for name in NAMES})

    def test_one_to_nine_copies_of_different_names(self):
        for names in (("a",), tuple("abcdefghi")):
            self.assertEqual(Replicas(names, len(names)).leader, "a")
            for least in (-1, 0, len(names) + 1):
                with self.assertRaises(LogError):
                    Replicas(names, least)
        for names in ((), tuple("abcdefghij"), ("a", "b", "a")):
            for least in (0, 1):
                with self.assertRaises(LogError):
                    Replicas(names, least)


class Rows(unittest.TestCase):
    def test_one_copy_alone_is_firm_at_once(self):
        replicas = Replicas(("a",), 1)
        self.assertFalse(replicas.is_kept(0))
        self.assertEqual([replicas.append((number,)) for number in range(3)], [0, 1, 2])
        self.assertEqual(replicas.copies["a"].records, [(1, (0,)), (1, (1,)), (1, (2,))])
        self.assertTrue(replicas.is_kept(2))
        self.assertFalse(replicas.is_kept(3))
        self.assertEqual(replicas.read("a", 1), ((1,), (2,)))

    def test_the_firm_place_is_the_least_end_of_those_that_keep_up(self):
        replicas = Replicas(NAMES, 3)
        for number in range(4):
            self.assertEqual(replicas.append((number,)), number)
        self.assertIsNone(replicas.pull("a", 3))
        self.assertEqual((rows(replicas, "a"), replicas.copies["b"].firm), ([0, 1, 2], 0))
        replicas.pull("c", 2)
        self.assertEqual([replicas.copies[name].firm for name in NAMES], [2, 0, 2])
        self.assertEqual([replicas.is_kept(place) for place in (1, 2)], [True, False])
        replicas.pull("a", 0)
        self.assertEqual(replicas.copies["a"].firm, 2)
        self.assertEqual(replicas.keeping, ["a", "b", "c"])
        replicas.pull("c", 9)
        self.assertEqual([replicas.copies[name].firm for name in NAMES], [3, 2, 3])

    def test_a_follower_that_is_behind_knows_no_more_than_it_has(self):
        replicas = started(many=5)
        replicas.go_down("c")
        replicas.copies["c"].records = replicas.copies["c"].records[:1]
        replicas.come_up("c")
        replicas.pull("c", 2)
        self.assertEqual((rows(replicas, "c"), replicas.copies["c"].firm), ([0, 1, 2], 3))
        self.assertEqual(replicas.keeping, ["a", "b"])

    def test_reading_what_is_known_to_be_kept(self):
        replicas = Replicas(NAMES, 1)
        for number in range(3):
            replicas.append((number,))
        replicas.pull("a", 9)
        replicas.pull("c", 2)
        self.assertEqual(replicas.read("b", 0), ((0,), (1,)))
        self.assertEqual(replicas.read("c", 0), ((0,), (1,)))
        self.assertEqual(replicas.read("a", 0), ())
        self.assertEqual((replicas.read("b", 1), replicas.read("b", 2), replicas.read("b", 9)), (((1,),), (), ()))
        self.assertEqual(replicas.read("b", -1), ((0,), (1,)))
        replicas.go_down("b")
        self.assertEqual(replicas.read("b", 1), ((1,),))
        with self.assertRaises(LogError):
            replicas.read("d", 0)

    def test_too_few_keep_up(self):
        replicas = started(least=2, many=1)
        replicas.go_down("a")
        self.assertEqual(replicas.append((1,)), 1)
        replicas.go_down("c")
        before = state(replicas)
        with self.assertRaises(LogError):
            replicas.append((2,))
        self.assertEqual(state(replicas), before)
        replicas.come_up("a")
        with self.assertRaises(LogError):
            replicas.append((2,))
        replicas.pull("a", 9)
        self.assertEqual((replicas.append((2,)), replicas.keeping), (2, ["a", "b"]))

    def test_nobody_leads(self):
        replicas = started(many=1)
        replicas.go_down("b")
        before = state(replicas)
        for call in (lambda: replicas.append((1,)), lambda: replicas.is_kept(0), lambda: replicas.pull("a", 1),
                     lambda: replicas.drop_slow("a")):
            with self.assertRaises(LogError):
                call()
        self.assertEqual(state(replicas), before)
        self.assertEqual((replicas.leader, replicas.keeping), (None, ["a", "c"]))


class Pulling(unittest.TestCase):
    def test_who_cannot_pull(self):
        replicas = started(many=2)
        replicas.append((2,))
        replicas.go_down("c")
        before = state(replicas)
        for name in ("b", "c", "d"):
            with self.assertRaises(LogError):
                replicas.pull(name, 5)
        self.assertEqual(state(replicas), before)

    def test_one_that_has_all_then_keeps_up(self):
        replicas = started(many=2)
        replicas.go_down("c")
        for number in range(2, 5):
            replicas.append((number,))
        replicas.come_up("c")
        replicas.pull("c", 2)
        self.assertEqual((rows(replicas, "c"), replicas.keeping), ([0, 1, 2, 3], ["a", "b"]))
        replicas.pull("c", 0)
        self.assertEqual(replicas.keeping, ["a", "b"])
        replicas.pull("c", -1)
        self.assertEqual(rows(replicas, "c"), [0, 1, 2, 3])
        replicas.pull("c", 1)
        self.assertEqual((rows(replicas, "c"), replicas.keeping), ([0, 1, 2, 3, 4], ["a", "b", "c"]))

    def test_rows_that_the_leader_has_not_are_cut_off(self):
        replicas = started(many=2)
        replicas.append((2,))
        replicas.append((3,))
        replicas.go_down("b")
        self.assertEqual(replicas.elect(), "a")
        self.assertEqual(replicas.append((9,)), 2)
        replicas.come_up("b")
        self.assertEqual(rows(replicas, "b"), [0, 1, 2, 3])
        replicas.pull("b", 0)
        self.assertEqual((rows(replicas, "b"), replicas.keeping), ([0, 1], ["a", "c"]))
        replicas.pull("b", 5)
        self.assertEqual(replicas.copies["b"].records, [(1, (0,)), (1, (1,)), (2, (9,))])
        self.assertEqual(replicas.keeping, ["a", "b", "c"])

    def test_a_time_that_the_leader_never_had(self):
        replicas = Replicas(("a", "b"), 1)
        replicas.copies["a"].records = [(1, (0,)), (1, (1,)), (4, (2,)), (6, (3,))]
        replicas.copies["b"].records = [(1, (0,)), (1, (1,)), (1, (7,)), (3, (8,)), (5, (9,))]
        replicas.time = 6
        replicas.pull("b", 0)
        self.assertEqual(replicas.copies["b"].records, [(1, (0,)), (1, (1,))])
        replicas.copies["b"].records = [(2, (8,)), (3, (9,))]
        replicas.pull("b", 0)
        self.assertEqual(replicas.copies["b"].records, [])

    def test_an_elder_time_that_the_leader_has_shorter(self):
        replicas = Replicas(("a", "b"), 1)
        replicas.copies["a"].records = [(1, (0,)), (2, (1,)), (3, (2,))]
        replicas.copies["b"].records = [(1, (0,)), (2, (1,)), (2, (5,))]
        replicas.time = 3
        replicas.pull("b", 1)
        self.assertEqual(replicas.copies["b"].records, [(1, (0,)), (2, (1,)), (3, (2,))])


class UpAndDown(unittest.TestCase):
    def test_who_cannot_go_down_or_come_up(self):
        replicas = started(many=1)
        replicas.go_down("c")
        before = state(replicas)
        for call, name in ((replicas.go_down, "c"), (replicas.go_down, "d"), (replicas.come_up, "a"),
                           (replicas.come_up, "d"), (replicas.come_up, "b")):
            with self.assertRaises(LogError):
                call(name)
        self.assertEqual(state(replicas), before)

    def test_a_follower_goes_down(self):
        replicas = Replicas(NAMES, 1)
        replicas.append((0,))
        replicas.pull("a", 1)
        self.assertFalse(replicas.is_kept(0))
        self.assertIsNone(replicas.go_down("c"))
        self.assertEqual((replicas.leader, replicas.keeping), ("b", ["a", "b"]))
        self.assertFalse(replicas.copies["c"].is_up)
        self.assertTrue(replicas.is_kept(0))
        self.assertIsNone(replicas.come_up("c"))
        self.assertTrue(replicas.copies["c"].is_up)
        self.assertEqual(replicas.keeping, ["a", "b"])

    def test_the_leader_goes_down(self):
        replicas = started(many=2)
        replicas.go_down("b")
        self.assertEqual((replicas.leader, replicas.time, replicas.keeping), (None, 1, ["a", "c"]))
        self.assertEqual((replicas.elect(), replicas.time, replicas.leader), ("a", 2, "a"))
        self.assertEqual(replicas.elect(), "a")
        self.assertEqual(replicas.time, 2)

    def test_the_last_one_that_keeps_up_stays(self):
        replicas = started(many=1)
        for name in ("a", "c", "b"):
            replicas.go_down(name)
        self.assertEqual((replicas.leader, replicas.keeping), (None, ["b"]))
        before = state(replicas)
        self.assertIsNone(replicas.elect())
        self.assertEqual(state(replicas), before)
        replicas.come_up("a")
        self.assertIsNone(replicas.elect())
        replicas.come_up("b")
        self.assertEqual((replicas.elect(), replicas.time, replicas.keeping), ("b", 2, ["b"]))

    def test_the_last_one_that_keeps_up_is_no_leader(self):
        replicas = started(many=1)
        replicas.go_down("b")
        replicas.go_down("c")
        replicas.go_down("a")
        self.assertEqual(replicas.keeping, ["a"])
        replicas.come_up("b")
        self.assertIsNone(replicas.elect())
        replicas.come_up("a")
        self.assertEqual(replicas.elect(), "a")


class Electing(unittest.TestCase):
    def test_those_that_keep_up_cut_off_what_the_leader_has_not(self):
        replicas = Replicas(NAMES, 1)
        for number in range(4):
            replicas.append((number,))
        replicas.pull("a", 1)
        replicas.pull("c", 3)
        replicas.go_down("b")
        self.assertEqual(replicas.elect(), "a")
        self.assertEqual((rows(replicas, "a"), rows(replicas, "c"), rows(replicas, "b")), ([0], [0], [0, 1, 2, 3]))
        self.assertEqual(replicas.copies["a"].firm, 1)
        self.assertEqual(replicas.append((7,)), 1)
        self.assertEqual(replicas.copies["a"].records, [(1, (0,)), (2, (7,))])

    def test_a_copy_that_is_down_keeps_up_no_more(self):
        replicas = started(many=1)
        replicas.go_down("b")
        replicas.copies["a"].is_up = False
        self.assertEqual(replicas.elect(), "c")
        self.assertEqual(replicas.keeping, ["c"])


class Slow(unittest.TestCase):
    def test_one_that_lacks_records_is_dropped(self):
        replicas = started(many=1)
        replicas.append((1,))
        replicas.pull("a", 5)
        self.assertFalse(replicas.is_kept(1))
        self.assertIsNone(replicas.drop_slow("c"))
        self.assertEqual(replicas.keeping, ["a", "b"])
        self.assertTrue(replicas.is_kept(1))

    def test_who_is_not_slow(self):
        replicas = started(many=1)
        replicas.append((1,))
        replicas.pull("a", 5)
        replicas.drop_slow("c")
        before = state(replicas)
        for name in ("a", "b", "c", "d"):
            with self.assertRaises(LogError):
                replicas.drop_slow(name)
        self.assertEqual(state(replicas), before)


class Drawn(unittest.TestCase):
    def run_once(self, seed):
        chance = random.Random(seed)
        names = tuple(chance.sample("abcde", chance.randrange(1, 6)))
        replicas = Replicas(names, chance.randrange(1, len(names) + 1))
        kept = {}
        known = {}
        firm = (None, 0)
        for number in range(150):
            name = chance.choice(names)
            before = state(replicas)
            try:
                chance.choice((
                    lambda: replicas.append((number,)), lambda: replicas.append((number,)),
                    lambda: replicas.pull(name, chance.randrange(4)), lambda: replicas.pull(name, chance.randrange(9)),
                    lambda: replicas.go_down(name), lambda: replicas.come_up(name), lambda: replicas.come_up(name),
                    lambda: replicas.elect(), lambda: replicas.drop_slow(name)))()
            except LogError:
                self.assertEqual(state(replicas), before)
            self.check_safe(replicas, kept, known)
            if replicas.leader is not None:
                now = replicas.copies[replicas.leader].firm
                if firm[0] == (replicas.leader, replicas.time):
                    self.assertGreaterEqual(now, firm[1])
                firm = ((replicas.leader, replicas.time), now)
        return len(kept)

    def check_safe(self, replicas, kept, known):
        """Check that what was told to be kept stays at its place, and note what is told now."""
        for name, copy in replicas.copies.items():
            times = [time for time, _ in copy.records]
            self.assertEqual(times, sorted(times))
            self.assertLessEqual(copy.firm, len(copy.records))
            for place, row in enumerate(replicas.read(name, 0)):
                self.assertEqual(known.setdefault(place, row), row)
        if replicas.leader is None:
            return
        leader = replicas.copies[replicas.leader]
        self.assertIn(replicas.leader, replicas.keeping)
        self.assertEqual(leader.firm, min(len(replicas.copies[name].records) for name in replicas.keeping))
        for place in kept:
            self.assertEqual(leader.records[place][1], kept[place])
            self.assertTrue(replicas.is_kept(place))
        for place in range(len(leader.records)):
            if replicas.is_kept(place):
                kept[place] = leader.records[place][1]
        for name in replicas.keeping:
            copy = replicas.copies[name]
            self.assertEqual(copy.records, leader.records[:len(copy.records)])

    def test_what_was_told_to_be_kept_stays(self):
        self.assertGreater(sum(self.run_once(seed) for seed in range(150)), 1000)


if __name__ == "__main__":
    unittest.main()
