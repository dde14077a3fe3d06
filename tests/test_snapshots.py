"""[16]: snapshots told by tasks, given up, and what counts by them; [21]: what a snapshot keeps is tuples."""

import itertools
import random
import unittest

from streamstack.errors import SnapshotError
from streamstack.snapshots import Snapshot, Store

TASKS = (("s", 0), ("s", 1), ("x", 0), ("out", 0), ("out", 1), ("end", 0))


def state(store):
    under_way = None
    if store.under_way is not None:
        under_way = (store.under_way.number, dict(store.under_way.places), dict(store.under_way.kept))
    last = (store.last.number, dict(store.last.places), dict(store.last.kept))
    return (last, under_way, list(store.counted), sorted(store.lacking))


def tell(store, number, task, records=()):
    if task[0] == "s":
        store.tell_places(number, task, ((task[1], number * 10, number * 100),))
    elif task[0] == "x":
        store.tell_groups(number, task, {3: ("kept", number)})
    else:
        store.tell_given(number, task, records)


class Snapshots(unittest.TestCase):
    def test_places_and_groups(self):
        snapshot = Snapshot(4)
        self.assertEqual((snapshot.number, snapshot.places, snapshot.kept, snapshot.groups_of("x")), (4, {}, {}, {}))
        self.assertIsNone(snapshot.put_place("s", 1, 7, 30))
        snapshot.put_place("s", 0, 2, 9)
        snapshot.put_place("r", 1, 0, 0)
        self.assertEqual(snapshot.places, {("s", 1): (7, 30), ("s", 0): (2, 9), ("r", 1): (0, 0)})
        self.assertIsNone(snapshot.put_groups("x", {3: ("a",), 5: ("b",)}))
        snapshot.put_groups("x", {7: ("c",)})
        snapshot.put_groups("y", {3: ("d",)})
        snapshot.put_groups("z", {})
        self.assertEqual(snapshot.kept, {("x", 3): ("a",), ("x", 5): ("b",), ("x", 7): ("c",), ("y", 3): ("d",)})
        self.assertEqual(snapshot.groups_of("x"), {3: ("a",), 5: ("b",), 7: ("c",)})
        self.assertEqual((snapshot.groups_of("y"), snapshot.groups_of("z")), ({3: ("d",)}, {}))

    def test_what_is_put_as_lists_is_kept_as_tuples(self):
        snapshot = Snapshot(4)
        self.assertIsNone(snapshot.put_groups("w", {3: ["a"], 4: ("b", "c"), 5: []}))
        self.assertEqual(snapshot.kept, {("w", 3): ("a",), ("w", 4): ("b", "c"), ("w", 5): ()})
        self.assertEqual(snapshot.groups_of("w"), {3: ("a",), 4: ("b", "c"), 5: ()})
        snapshot.put_groups("w", {3: ["d", "e"]})
        self.assertEqual(snapshot.groups_of("w"), {3: ("d", "e"), 4: ("b", "c"), 5: ()})

    def test_what_its_teller_changes_later_is_kept_as_it_was(self):
        snapshot, told = Snapshot(4), {3: ["a"], 4: []}
        snapshot.put_groups("w", told)
        told[3].append("b")
        told[4].append("c")
        told[5] = ["d"]
        self.assertEqual(told, {3: ["a", "b"], 4: ["c"], 5: ["d"]})
        self.assertEqual(snapshot.kept, {("w", 3): ("a",), ("w", 4): ()})
        snapshot.groups_of("w")[3] = ("z",)
        self.assertEqual(snapshot.groups_of("w"), {3: ("a",), 4: ()})


class Stores(unittest.TestCase):
    def test_a_fresh_store(self):
        store = Store()
        self.assertEqual((store.last.number, store.last.places, store.last.kept), (0, {}, {}))
        self.assertEqual((store.under_way, store.counted, store.counts_of("out")), (None, [], ()))

    def test_tasks_tell_in_any_order(self):
        for order in itertools.permutations(TASKS):
            store = Store()
            self.assertEqual(store.begin(TASKS), 1)
            for place, task in enumerate(order):
                self.assertEqual((store.last.number, store.counted, store.under_way.number), (0, [], 1))
                self.assertEqual(sorted(store.lacking), sorted(order[place:]))
                tell(store, 1, task, ((("k",), task, 0), (("l",), task, 1)))
            self.assertIsNone(store.under_way)
            self.assertEqual(store.last.number, 1)
            self.assertEqual(store.last.places, {("s", 0): (10, 100), ("s", 1): (10, 100)})
            self.assertEqual(store.last.kept, {("x", 3): ("kept", 1)})
            self.assertEqual(store.counted, [(task[0], ((key,), task, time)) for task in sorted(TASKS[3:])
                                             for key, time in (("k", 0), ("l", 1))])
            self.assertEqual(store.counts_of("end"), ((("k",), ("end", 0), 0), (("l",), ("end", 0), 1)))
            self.assertEqual([row for _, row, _ in store.counts_of("out")], [("out", 0)] * 2 + [("out", 1)] * 2)
            self.assertEqual(store.counts_of("x"), ())

    def test_begun_while_one_is_under_way(self):
        store = Store()
        store.begin(TASKS)
        tell(store, 1, TASKS[0])
        before = state(store)
        with self.assertRaises(SnapshotError):
            store.begin(TASKS)
        self.assertEqual(state(store), before)

    def refused(self, store, number, task):
        before = state(store)
        for call in (lambda: store.need(number, task), lambda: store.tell_places(number, task, ((0, 5, 5),)),
                     lambda: store.tell_groups(number, task, {9: ("z",)}),
                     lambda: store.tell_given(number, task, ((("k",), (9,), 9),))):
            with self.assertRaises(SnapshotError):
                call()
            self.assertEqual(state(store), before)

    def test_what_a_task_tells_as_lists_is_kept_as_tuples(self):
        store, told = Store(), {0: [1, 0], 2: []}
        number = store.begin([("w", 0), ("w", 1)])
        self.assertIsNone(store.tell_groups(number, ("w", 0), told))
        self.assertEqual(store.under_way.kept, {("w", 0): (1, 0), ("w", 2): ()})
        told[0].append(7)
        with self.assertRaises(SnapshotError):
            store.tell_groups(number, ("w", 0), {0: [9], 1: [9]})
        self.assertEqual(store.under_way.kept, {("w", 0): (1, 0), ("w", 2): ()})
        store.tell_groups(number, ("w", 1), {31: (("k",), (5,))})
        self.assertIsNone(store.under_way)
        self.assertEqual(store.last.kept, {("w", 0): (1, 0), ("w", 2): (), ("w", 31): (("k",), (5,))})
        self.assertEqual(store.last.groups_of("w"), {0: (1, 0), 2: (), 31: (("k",), (5,))})

    def test_told_twice_out_of_turn_and_for_another_number(self):
        store = Store()
        self.refused(store, 1, ("s", 0))
        self.refused(store, 0, ("s", 0))
        store.begin(TASKS)
        self.assertIsNone(store.need(1, ("out", 0)))
        for number, task in ((0, ("s", 0)), (2, ("s", 0)), (1, ("s", 2)), (1, ("q", 0))):
            self.refused(store, number, task)
        tell(store, 1, ("out", 0), ((("k",), (1,), 1),))
        tell(store, 1, ("s", 1))
        self.refused(store, 1, ("out", 0))
        self.refused(store, 1, ("s", 1))
        for task in (("s", 0), ("x", 0), ("out", 1), ("end", 0)):
            tell(store, 1, task)
        self.refused(store, 1, ("s", 0))
        self.assertEqual(store.counted, [("out", (("k",), (1,), 1))])
        self.assertEqual(store.begin(TASKS), 2)
        self.refused(store, 1, ("s", 0))

    def test_given_up_its_number_goes_to_the_next_one_and_what_was_pending_is_gone(self):
        store = Store()
        store.begin(TASKS)
        for task in TASKS[1:]:
            tell(store, 1, task, ((("k",), (1,), 1),))
        self.assertIsNone(store.drop())
        self.assertEqual(state(store), ((0, {}, {}), None, [], []))
        self.refused(store, 1, ("s", 0))
        self.assertEqual(store.begin((("s", 0), ("out", 0))), 1)
        tell(store, 1, ("s", 0))
        self.assertEqual(store.counted, [])
        tell(store, 1, ("out", 0), ((("k",), (2,), 1),))
        self.assertEqual((store.last.number, store.counted), (1, [("out", (("k",), (2,), 1))]))
        self.assertEqual(store.last.places, {("s", 0): (10, 100)})
        store.drop()
        self.assertEqual((store.last.number, store.begin(TASKS)), (1, 2))

    def test_what_counts_stands_by_snapshots(self):
        store = Store()
        for number in (1, 2, 3):
            store.begin((("out", 1), ("a", 0), ("out", 0)))
            for task in random.Random(number).sample([("out", 1), ("a", 0), ("out", 0)], 3):
                tell(store, number, task, (((number,), task, 0),))
        self.assertEqual([(sink, record[0][0], record[1][1]) for sink, record in store.counted],
                         [(sink, number, place) for number in (1, 2, 3)
                          for sink, place in (("a", 0), ("out", 0), ("out", 1))])
        self.assertEqual([key for key, _, _ in store.counts_of("a")], [(1,), (2,), (3,)])
        self.assertEqual((store.last.number, store.last.places, store.last.kept), (3, {}, {}))


if __name__ == "__main__":
    unittest.main()
