"""[10]: deals that count whole or not at all."""

import random
import unittest

from streamstack.deals import DealDoor, read_kept
from streamstack.errors import LogError, RowError
from streamstack.logs import Log


def key_in(log, part):
    """Return a key that stands in a part."""
    return next((number,) for number in range(1000) if log.part_of((number,)) == part)


def state(door):
    parts = [(part.kept, part.waiting, list(part.records), part.first) for part in door.log.parts]
    return (parts, [door.firm_end(part) for part in range(len(parts))])


def records(door, part=0):
    return [(key, row) for key, row, _ in door.log.parts[part].records]


class Entering(unittest.TestCase):
    def test_ages_count_from_1_on(self):
        door = DealDoor(Log(1))
        self.assertEqual([door.enter("p"), door.enter("p"), door.enter("q"), door.enter("p")], [1, 2, 1, 3])
        self.assertIsNone(door.need("p", 3))
        self.assertEqual(records(door), [])

    def test_need(self):
        door = DealDoor(Log(1))
        door.enter("p")
        door.enter("p")
        for name, age in (("p", 1), ("p", 3), ("p", 0), ("q", 1)):
            with self.assertRaises(LogError):
                door.need(name, age)

    def test_an_open_deal_of_an_elder_age_is_dropped(self):
        door = DealDoor(Log(1))
        age = door.enter("p")
        door.begin("p", age)
        door.add("p", age, ("k",), (7,), 3)
        self.assertEqual(door.firm_end(0), 0)
        self.assertEqual(door.enter("p"), 2)
        self.assertEqual(records(door), [(("k",), (0, "p", 1, 1, 7)), (("p",), (2, "p", 1, 1))])
        self.assertEqual(door.firm_end(0), 2)
        self.assertEqual(read_kept(door.log.parts[0], 9), ())
        with self.assertRaises(LogError):
            door.add("p", 2, ("k",), (8,), 3)
        self.assertEqual(door.begin("p", 2), 2)


class Deals(unittest.TestCase):
    def test_numbers_count_from_1_on_over_all_ages(self):
        door = DealDoor(Log(1))
        age = door.enter("p")
        self.assertEqual(door.begin("p", age), 1)
        self.assertIsNone(door.commit("p", age))
        self.assertEqual(door.begin("p", age), 2)
        self.assertIsNone(door.drop("p", age))
        age = door.enter("p")
        self.assertEqual(door.begin("p", age), 3)
        self.assertEqual(door.begin("q", door.enter("q")), 1)

    def test_a_deal_without_records_has_no_end(self):
        door = DealDoor(Log(2))
        age = door.enter("p")
        for end in (door.commit, door.drop):
            door.begin("p", age)
            end("p", age)
        door.begin("p", age)
        door.enter("p")
        self.assertEqual((records(door, 0), records(door, 1)), ([], []))

    def test_records_tell_their_deal(self):
        log = Log(1)
        door = DealDoor(log)
        self.assertIs(door.log, log)
        age = door.enter("p")
        door.begin("p", age)
        self.assertEqual(door.add("p", age, ("k",), (5, "x"), 9), (0, 0))
        self.assertEqual(door.add("p", age, (), (), 0), (0, 1))
        door.commit("p", age)
        self.assertEqual(log.parts[0].records, [(("k",), (0, "p", 1, 1, 5, "x"), 9), ((), (0, "p", 1, 1), 0),
                                                (("p",), (1, "p", 1, 1), 0)])
        self.assertEqual(log.parts[0].kept, ())

    def test_an_end_stands_in_each_part_that_has_records_by_parts_ascending(self):
        log = Log(4)
        door = DealDoor(log)
        age = door.enter("p")
        for end, word in ((door.commit, 1), (door.drop, 2)):
            number = door.begin("p", age)
            for part in (3, 1, 3):
                door.add("p", age, key_in(log, part), (part,), 0)
            end("p", age)
            row = ("p", 1, number)
            self.assertEqual(records(door, 1)[-2:], [(key_in(log, 1), (0,) + row + (1,)), (("p",), (word,) + row)])
            self.assertEqual(records(door, 3)[-3:], [(key_in(log, 3), (0,) + row + (3,))] * 2
                             + [(("p",), (word,) + row)])
        self.assertEqual((log.parts[0].end(), log.parts[2].end()), (0, 0))

    def test_the_end_is_written_by_name_and_word(self):
        door = DealDoor(Log(1))
        age = door.enter("p")
        door.begin("p", age)
        door.add("p", age, ("k",), (5,), 9)
        self.assertIsNone(door.end("p", 1))
        self.assertEqual(records(door)[-1], (("p",), (1, "p", 1, 1)))
        self.assertEqual((door.firm_end(0), door.begin("p", age)), (2, 2))

    def test_sixteen_values_and_seventeen(self):
        door = DealDoor(Log(1))
        age = door.enter("p")
        door.begin("p", age)
        self.assertEqual(door.add("p", age, (), tuple(range(16)), 0), (0, 0))
        with self.assertRaises(LogError):
            door.add("p", age, (), tuple(range(17)), 0)
        self.assertEqual(door.log.parts[0].end(), 1)
        door.commit("p", age)
        door.log.sync()
        door.log.parts[0].crash(0)
        self.assertEqual(read_kept(door.log.parts[0], 1), ((0, (), tuple(range(16)), 0),))


class Refused(unittest.TestCase):
    def test_without_entering_by_an_elder_age_twice_and_without_a_deal(self):
        door = DealDoor(Log(2))
        door.enter("p")
        age = door.enter("p")
        door.enter("idle")
        door.begin("p", age)
        door.add("p", age, ("k",), (1,), 0)
        before = state(door)
        calls = [lambda: door.begin("q", 1), lambda: door.begin("p", 1), lambda: door.begin("p", 3),
                 lambda: door.begin("p", age)]
        for name, told in (("q", 1), ("p", 1), ("p", 3), ("idle", 1), ("idle", 2)):
            calls += [lambda name=name, told=told: door.add(name, told, ("k",), (), 0),
                      lambda name=name, told=told: door.commit(name, told),
                      lambda name=name, told=told: door.drop(name, told)]
        for call in calls:
            with self.assertRaises(LogError):
                call()
            self.assertEqual(state(door), before)
        self.assertEqual((door.add("p", age, ("k",), (1,), 0)[1], door.begin("idle", 1)), (1, 1))

    def test_records_that_cannot_be(self):
        door = DealDoor(Log(2))
        age = door.enter("p")
        door.begin("p", age)
        before = state(door)
        with self.assertRaises(LogError):
            door.add("p", age, ("k",), (), -1)
        with self.assertRaises(RowError):
            door.add("p", age, ("k",), (None,), 0)
        self.assertEqual(state(door), before)
        door.commit("p", age)
        self.assertEqual(state(door), before)

    def test_nothing_is_open_behind_an_end(self):
        door = DealDoor(Log(1))
        age = door.enter("p")
        for end in (door.commit, door.drop):
            door.begin("p", age)
            end("p", age)
            for call in (lambda: door.commit("p", age), lambda: door.drop("p", age),
                         lambda: door.add("p", age, (), (), 0)):
                with self.assertRaises(LogError):
                    call()


class Reading(unittest.TestCase):
    def two_deals(self):
        """Return a part: p's record, q's, p's, q's end (dropped), p's end (kept), then p's open next deal."""
        door = DealDoor(Log(1))
        p, q = door.enter("p"), door.enter("q")
        door.begin("p", p)
        door.begin("q", q)
        door.add("p", p, ("a",), (1,), 5)
        door.add("q", q, ("b",), (2,), 6)
        door.add("p", p, ("c",), (), 7)
        door.drop("q", q)
        door.commit("p", p)
        door.begin("p", p)
        door.add("p", p, ("d",), (4,), 8)
        return door

    def test_records_of_deals_that_count_ahead_of_and_behind_an_end(self):
        part = self.two_deals().log.parts[0]
        one, other = (0, ("a",), (1,), 5), (2, ("c",), (), 7)
        for end, wanted in ((0, ()), (1, (one,)), (2, (one,)), (3, (one, other)), (5, (one, other)),
                            (99, (one, other)), (-1, ())):
            self.assertEqual(read_kept(part, end), wanted)

    def test_places_behind_a_cut(self):
        door = self.two_deals()
        door.log.parts[0].trim(1)
        self.assertEqual(read_kept(door.log.parts[0], 9), ((2, ("c",), (), 7),))

    def test_the_firm_end_with_several_open_deals(self):
        door = DealDoor(Log(2))
        log = door.log
        p, q = door.enter("p"), door.enter("q")
        keys = [key_in(log, 0), key_in(log, 1)]
        door.begin("p", p)
        door.begin("q", q)
        self.assertEqual([door.firm_end(0), door.firm_end(1)], [0, 0])
        door.add("q", q, keys[0], (), 0)
        door.add("p", p, keys[0], (), 0)
        door.add("p", p, keys[1], (), 0)
        door.commit("q", q)
        self.assertEqual([door.firm_end(0), door.firm_end(1)], [1, 0])
        door.begin("q", q)
        door.add("q", q, keys[1], (), 0)
        door.commit("p", p)
        self.assertEqual([door.firm_end(0), door.firm_end(1)], [4, 1])
        door.drop("q", q)
        self.assertEqual([door.firm_end(0), door.firm_end(1)], [4, 4])

    def test_drawn_runs(self):
        for seed in range(100):
            chance = random.Random(seed)
            log = Log(3)
            door = DealDoor(log)
            ages = {name: door.enter(name) for name in "pqr"}
            pending, kept, firm = {}, [], [0, 0, 0]
            read = [(), (), ()]
            for number in range(60):
                name = chance.choice("pqr")
                what = chance.randrange(8)
                if name not in pending:
                    door.begin(name, ages[name])
                    pending[name] = []
                elif what < 5:
                    key = (chance.randrange(9),)
                    part, place = door.add(name, ages[name], key, (number,), number)
                    pending[name].append((part, (place, key, (number,), number)))
                elif what == 5:
                    door.commit(name, ages[name])
                    kept += pending.pop(name)
                elif what == 6:
                    door.drop(name, ages[name])
                    del pending[name]
                else:
                    ages[name] = door.enter(name)
                    del pending[name]
                for part in range(3):
                    now = door.firm_end(part)
                    self.assertGreaterEqual(now, firm[part])
                    wanted = tuple(sorted(record for at, record in kept if at == part and record[0] < now))
                    self.assertEqual(read_kept(log.parts[part], now), wanted)
                    self.assertEqual(wanted[:len(read[part])], read[part])
                    firm[part], read[part] = now, wanted


if __name__ == "__main__":
    unittest.main()
