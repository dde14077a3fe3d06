"""[17]: rates, numbers of tasks, machines and what moves."""

import random
import unittest

from streamstack.errors import JobError
from streamstack.scripts import parse_job
from streamstack.sizing import Load, Machines, needed_tasks, rates_of

TEXT = """s = source a int
r = source b int
e = each of s where a > 0
k = key of e by a
t = total of k each 5 by 5 : count as n
q = session of t within 5 : count as n
j = join of s and s
m = meet of s and r within 5
o = sink of q
p = sink of m"""


def tasks_of(**steps):
    return [(name, number) for name, many in steps.items() for number in range(many)]


def state(machines):
    return (dict(machines.slots), dict(machines.places))


class Rates(unittest.TestCase):
    def setUp(self):
        self.job = parse_job(TEXT)

    def test_loads(self):
        load = Load(3)
        self.assertEqual((load.most, load.gives), (3, 100))
        self.assertEqual((Load(1, 0).gives, Load(7, gives=250).most), (0, 7))
        for most, gives in ((0, 100), (-1, 100), (1, -1), (0, -1)):
            with self.assertRaises(JobError):
                Load(most, gives)

    def test_each_class_of_step_without_loads(self):
        self.assertEqual(rates_of(self.job, {"s": 30, "r": 7}, {}),
                         {"s": 30, "r": 7, "e": 30, "k": 30, "t": 30, "q": 30, "j": 60, "m": 37, "o": 30, "p": 37})
        self.assertEqual(set(rates_of(self.job, {"s": 0, "r": 0}, {}).values()), {0})

    def test_what_steps_give_is_rounded_up(self):
        loads = {"s": Load(9, 150), "e": Load(9, 33), "k": Load(9), "t": Load(9, 1), "m": Load(9, 0), "none": Load(9, 5)}
        self.assertEqual(rates_of(self.job, {"s": 31, "r": 7}, loads),
                         {"s": 31, "r": 7, "e": 47, "k": 16, "t": 16, "q": 1, "j": 94, "m": 54, "o": 1, "p": 0})
        self.assertEqual([rates_of(self.job, {"s": rate, "r": 0}, {"e": Load(1, 50)})["k"] for rate in range(5)],
                         [0, 1, 1, 2, 2])

    def test_sources_too_many_and_too_few_and_rates_below_0(self):
        for sources in ({}, {"s": 1}, {"s": 1, "q": 1}, {"s": 1, "r": 1, "q": 1}, {"s": 1, "r": 1, "e": 1},
                        {"s": -1, "r": 1}, {"s": 1, "r": -1}):
            for function in (rates_of, needed_tasks):
                with self.assertRaises(JobError):
                    function(self.job, sources, {})

    def test_numbers_of_tasks(self):
        loads = {"s": Load(10), "e": Load(10, 10), "k": Load(3), "j": Load(60), "m": Load(36), "p": Load(1000)}
        self.assertEqual(needed_tasks(self.job, {"s": 30, "r": 7}, loads),
                         {"s": 3, "r": 1, "e": 3, "k": 1, "t": 1, "q": 1, "j": 1, "m": 2, "o": 1, "p": 1})
        self.assertEqual([needed_tasks(self.job, {"s": rate, "r": 0}, {"e": Load(4)})["e"] for rate in (0, 1, 4, 5, 8, 9)],
                         [1, 1, 1, 2, 2, 3])

    def test_1000_tasks_and_1001(self):
        self.assertEqual(needed_tasks(self.job, {"s": 1000, "r": 0}, {"s": Load(1)})["s"], 1000)
        self.assertEqual(needed_tasks(self.job, {"s": 2000, "r": 0}, {"e": Load(2)})["e"], 1000)
        for sources, loads in (({"s": 1001, "r": 0}, {"s": Load(1)}), ({"s": 2001, "r": 0}, {"e": Load(2)})):
            with self.assertRaises(JobError):
                needed_tasks(self.job, sources, loads)
        self.assertEqual(needed_tasks(self.job, {"s": 5000, "r": 0}, {})["s"], 1)


class Placing(unittest.TestCase):
    def test_slots(self):
        for slots in ({"a": 0}, {"a": 65}, {"a": -1}, {"a": 4, "b": 0}):
            with self.assertRaises(JobError):
                Machines(slots)
        machines = Machines({"a": 1, "b": 64})
        self.assertEqual((machines.slots, machines.places, machines.free()), ({"a": 1, "b": 64}, {}, 65))
        self.assertEqual((Machines({}).free(), Machines({}).put([])), (0, ()))

    def test_by_the_most_free_slots_then_the_fewest_of_the_step_then_the_name(self):
        machines = Machines({"b": 3, "a": 2, "c": 3})
        self.assertEqual(machines.put([("x", 0), ("x", 1), ("y", 0), ("x", 2), ("y", 1)]), (
            (("x", 0), None, "b"), (("x", 1), None, "c"), (("x", 2), None, "b"), (("y", 0), None, "a"),
            (("y", 1), None, "c")))
        self.assertEqual([machines.used(name) for name in "abcd"], [1, 2, 2, 0])
        self.assertEqual((machines.free(), machines.places[("y", 0)]), (3, "a"))
        self.assertEqual((machines.best_for(("x", 9)), machines.best_for(("y", 9)), machines.best_for(("z", 0))),
                         ("a", "b", "a"))

    def test_tasks_that_stay_new_ones_and_those_that_are_gone(self):
        machines = Machines({"a": 2, "b": 2})
        machines.put([("x", 0), ("x", 1), ("x", 2)])
        self.assertEqual(machines.places, {("x", 0): "a", ("x", 1): "b", ("x", 2): "a"})
        self.assertEqual(machines.put([("x", 2), ("y", 1), ("x", 0), ("y", 0)]), (
            (("x", 1), "b", None), (("y", 0), None, "b"), (("y", 1), None, "b")))
        self.assertEqual(machines.places, {("x", 0): "a", ("x", 2): "a", ("y", 0): "b", ("y", 1): "b"})
        self.assertEqual(machines.put([("y", 1), ("x", 0), ("x", 2), ("y", 0)]), ())
        self.assertEqual(machines.put([]), tuple((task, one, None) for task, one in (
            (("x", 0), "a"), (("x", 2), "a"), (("y", 0), "b"), (("y", 1), "b"))))
        self.assertEqual((machines.places, machines.free()), ({}, 4))

    def test_slots_of_tasks_that_go_are_free_for_new_ones(self):
        machines = Machines({"a": 1})
        machines.put([("x", 0)])
        self.assertEqual(machines.put([("y", 0)]), ((("x", 0), "a", None), (("y", 0), None, "a")))

    def test_in_their_order_and_told_ascending(self):
        machines = Machines({"a": 1, "b": 3})
        self.assertEqual(machines.put([("y", 10), ("y", 9), ("x", 0), ("y", 2)]), (
            (("x", 0), None, "a"), (("y", 2), None, "b"), (("y", 9), None, "b"), (("y", 10), None, "b")))

    def test_too_few_slots_and_a_task_twice(self):
        machines = Machines({"a": 2, "b": 1})
        machines.put([("x", 0), ("y", 0)])
        before = state(machines)
        for tasks in (tasks_of(x=4), [("x", 0), ("x", 0)], [("z", 0), ("y", 0), ("z", 0)]):
            with self.assertRaises(JobError):
                machines.put(tasks)
            self.assertEqual(state(machines), before)
        self.assertEqual(len(machines.put(tasks_of(x=3))), 3)


class Changing(unittest.TestCase):
    def machines(self):
        """Return machines with x0, x2 and x3 on a, x1 on b, y0 on c, which were not put in this order."""
        machines = Machines({"a": 4, "b": 2, "c": 1})
        machines.places = {("x", 2): "a", ("x", 1): "b", ("x", 3): "a", ("y", 0): "c", ("x", 0): "a"}
        return machines

    def test_machines_that_come_take_nothing(self):
        machines = self.machines()
        before = dict(machines.places)
        self.assertEqual(machines.change({"a": 4, "b": 2, "c": 1, "d": 9}), ())
        self.assertEqual((machines.places, machines.free()), (before, 11))

    def test_machines_that_go(self):
        machines = self.machines()
        self.assertEqual(machines.change({"b": 3, "c": 1, "d": 2}), (
            (("x", 0), "a", "d"), (("x", 2), "a", "b"), (("x", 3), "a", "d")))
        self.assertEqual((machines.slots, machines.free(), machines.used("a")), ({"b": 3, "c": 1, "d": 2}, 1, 0))

    def test_of_a_machine_with_too_few_slots_the_last_tasks_go(self):
        machines = self.machines()
        self.assertEqual(machines.change({"a": 1, "b": 2, "c": 3}), (
            (("x", 2), "a", "c"), (("x", 3), "a", "b")))
        self.assertEqual(machines.places, {("x", 0): "a", ("x", 1): "b", ("x", 2): "c", ("x", 3): "b", ("y", 0): "c"})

    def test_all_at_once(self):
        machines = self.machines()
        self.assertEqual(machines.change({"a": 2, "d": 3}), (
            (("x", 1), "b", "d"), (("x", 3), "a", "d"), (("y", 0), "c", "d")))
        self.assertEqual(machines.change({"e": 5}), tuple(
            ((task, number), one, "e") for task, number, one in (
                ("x", 0, "a"), ("x", 1, "d"), ("x", 2, "a"), ("x", 3, "d"), ("y", 0, "d"))))

    def test_too_few_slots_and_slots_that_cannot_be(self):
        machines = self.machines()
        before = state(machines)
        for slots in ({"a": 4}, {}, {"a": 64, "b": 65}, {"a": 64, "b": 0}):
            with self.assertRaises(JobError):
                machines.change(slots)
            self.assertEqual(state(machines), before)

    def test_tables_that_were_handed_in_stay(self):
        slots = {"a": 2}
        machines = Machines(slots)
        machines.change({"a": 2, "b": 2})
        self.assertEqual((slots, machines.slots), ({"a": 2}, {"a": 2, "b": 2}))


class Drawn(unittest.TestCase):
    def test_no_machine_has_too_many_and_only_what_must_moves(self):
        for seed in range(80):
            chance = random.Random(seed)
            machines = Machines({name: chance.randrange(1, 6) for name in "abcd"})
            for _ in range(12):
                before, slots = dict(machines.places), dict(machines.slots)
                if chance.random() < 0.5:
                    tasks = chance.sample(tasks_of(x=6, y=4, z=2), chance.randrange(0, 9))
                    try:
                        moves = machines.put(tasks)
                    except JobError:
                        self.assertGreater(len(tasks), sum(slots.values()))
                        continue
                    self.assertEqual(sorted(machines.places), sorted(tasks))
                    self.assertTrue(all(before.get(task) in (None, machines.places[task]) for task in tasks))
                else:
                    slots = {name: chance.randrange(1, 6) for name in chance.sample("abcdef", 3)}
                    try:
                        moves = machines.change(slots)
                    except JobError:
                        self.assertGreater(len(before), sum(slots.values()))
                        continue
                    self.assertEqual((machines.slots, sorted(machines.places)), (slots, sorted(before)))
                told = {task: (one, other) for task, one, other in moves}
                self.assertEqual([task for task, _, _ in moves], sorted(told))
                self.assertEqual(told, {task: (before.get(task), machines.places.get(task))
                                        for task in {**before, **machines.places}
                                        if before.get(task) != machines.places.get(task)})
                self.assertTrue(all(machines.used(name) <= machines.slots[name] for name in machines.slots))
                self.assertEqual(machines.free(), sum(machines.slots.values()) - len(machines.places))


if __name__ == "__main__":
    unittest.main()
