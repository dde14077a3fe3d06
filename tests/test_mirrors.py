"""[24]: records carried to another log, marks, places told across, lags."""

import random
import unittest

from streamstack.errors import LogError
from streamstack.logs import Log
from streamstack.mirrors import Mirror


def log_with(many, parts=1):
    """Return a log whose every part has so many records, the rows their numbers."""
    log = Log(parts)
    for part in log.parts:
        for number in range(many):
            part.append(("k",), (number,), number)
    return log


def own(log, many=1, part=0):
    for _ in range(many):
        log.parts[part].append(("own",), ("own",), 0)


def rows(log, part=0):
    return [row[0] for _, row, _ in log.parts[part].records]


def state(mirror):
    parts = [(part.kept, part.waiting, list(part.records), part.first) for part in mirror.target.parts]
    return (list(mirror.places), parts, [mirror.end_there(part) for part in range(len(mirror.places))])


class Made(unittest.TestCase):
    def test_fields(self):
        mirror = Mirror(Log(3), Log(3))
        self.assertEqual((mirror.each, mirror.places), (5, [0, 0, 0]))
        self.assertEqual(Mirror(Log(1), Log(1), 1).each, 1)
        self.assertEqual(Mirror(Log(1), Log(1), each=9).each, 9)

    def test_logs_that_do_not_fit(self):
        for one, other, each in ((1, 2, 5), (3, 2, 5), (2, 2, 0), (2, 2, -1)):
            with self.assertRaises(LogError):
                Mirror(Log(one), Log(other), each)


class Carrying(unittest.TestCase):
    def test_at_most_so_many(self):
        source, target = log_with(5), Log(1)
        mirror = Mirror(source, target)
        self.assertEqual([mirror.lag(0), mirror.end_there(0)], [5, 0])
        self.assertEqual((mirror.carry(0, 0), mirror.carry(0, -1), mirror.places), (0, 0, [0]))
        self.assertEqual((mirror.carry(0, 2), mirror.places, mirror.end_there(0), mirror.lag(0)), (2, [2], 2, 3))
        self.assertEqual((mirror.carry(0, 9), mirror.places, mirror.end_there(0), mirror.lag(0)), (3, [5], 5, 0))
        self.assertEqual((mirror.carry(0, 9), mirror.places, mirror.lag(0)), (0, [5], 0))
        self.assertEqual(target.parts[0].records, source.parts[0].records)
        self.assertEqual(target.parts[0].kept, ())
        self.assertEqual(source.parts[0].end(), 5)
        source.parts[0].append((), (7,), 0)
        self.assertEqual((mirror.lag(0), mirror.carry(0, 1), rows(target)), (1, 1, [0, 1, 2, 3, 4, 7]))

    def test_each_part_by_itself(self):
        source, target = log_with(3, 2), Log(2)
        mirror = Mirror(source, target)
        mirror.carry(1, 2)
        self.assertEqual((mirror.places, rows(target, 0), rows(target, 1)), ([0, 2], [], [0, 1]))
        self.assertEqual([mirror.lag(0), mirror.lag(1)], [3, 1])
        self.assertEqual([mirror.end_there(0), mirror.end_there(1)], [0, 2])

    def test_parts_that_are_not_there(self):
        mirror = Mirror(log_with(3, 2), Log(2))
        mirror.carry(0, 1)
        before = state(mirror)
        for part in (-1, 2):
            with self.assertRaises(LogError):
                mirror.carry(part, 1)
            with self.assertRaises(LogError):
                mirror.place_there(part, 0)
        for part in (0, 1):
            with self.assertRaises(LogError):
                mirror.place_there(part, -1)
        self.assertEqual(state(mirror), before)

    def test_records_that_were_cut_off_before_they_were_carried(self):
        source, target = log_with(8), Log(1)
        mirror = Mirror(source, target)
        mirror.carry(0, 2)
        source.parts[0].trim(5)
        self.assertEqual((mirror.lag(0), mirror.places), (3, [2]))
        self.assertEqual(mirror.carry(0, 1), 1)
        self.assertEqual((rows(target), mirror.places, mirror.lag(0)), ([0, 1, 5], [6], 2))
        self.assertEqual([mirror.place_there(0, place) for place in range(8)], [0, 1, 2, 2, 2, 2, 3, 3])

    def test_all_are_cut_off(self):
        source, target = log_with(4), Log(1)
        mirror = Mirror(source, target)
        source.parts[0].trim(4)
        self.assertEqual((mirror.lag(0), mirror.carry(0, 5), rows(target)), (0, 0, []))
        own(target, 3)
        source.parts[0].append((), (4,), 0)
        self.assertEqual((mirror.lag(0), mirror.carry(0, 5)), (1, 1))
        self.assertEqual([mirror.place_there(0, place) for place in range(6)], [3, 3, 3, 3, 3, 4])

    def test_records_that_were_carried_and_lost_here(self):
        source = log_with(2)
        source.sync()
        source.parts[0].append((), (2,), 0)
        mirror = Mirror(source, Log(1))
        mirror.carry(0, 9)
        source.parts[0].crash(0)
        self.assertEqual((mirror.lag(0), mirror.carry(0, 9), mirror.places), (0, 0, [3]))


class Places(unittest.TestCase):
    def marked(self):
        """Return a mirror whose marks are (0, 2), (3, 7) and (6, 10), the last record there at 11."""
        source, target = log_with(8), Log(1)
        mirror = Mirror(source, target, each=3)
        own(target, 2)
        mirror.carry(0, 2)
        own(target, 2)
        mirror.carry(0, 6)
        own(target, 4)
        return mirror

    def test_without_any_mark(self):
        mirror = Mirror(log_with(3), Log(1))
        self.assertEqual([mirror.place_there(0, place) for place in (0, 2, 9)], [0, 0, 0])

    def test_at_marks_between_them_and_behind_the_last_record(self):
        mirror = self.marked()
        self.assertEqual(rows(mirror.target), ["own"] * 2 + [0, 1] + ["own"] * 2 + [2, 3, 4, 5, 6, 7] + ["own"] * 4)
        self.assertEqual([mirror.place_there(0, place) for place in range(11)], [2, 3, 4, 7, 8, 9, 10, 11, 12, 12, 12])
        self.assertEqual(mirror.end_there(0), 12)

    def test_not_behind_the_next_mark(self):
        source, target = log_with(3), Log(1)
        mirror = Mirror(source, target)
        mirror.carry(0, 3)
        source.parts[0].append((), (3,), 0)
        source.parts[0].append((), (4,), 0)
        source.parts[0].trim(4)
        mirror.carry(0, 1)
        self.assertEqual([mirror.place_there(0, place) for place in range(7)], [0, 1, 2, 3, 3, 4, 4])

    def test_ahead_of_the_first_mark(self):
        source, target = log_with(6), Log(1)
        own(target, 3)
        source.parts[0].trim(4)
        mirror = Mirror(source, target)
        mirror.carry(0, 2)
        self.assertEqual([mirror.place_there(0, place) for place in range(8)], [3, 3, 3, 3, 3, 4, 5, 5])

    def test_a_mark_stands_where_the_last_is_as_far_ago_as_each_tells(self):
        source, target = log_with(7), Log(1)
        mirror = Mirror(source, target, each=2)
        for _ in range(7):
            mirror.carry(0, 1)
            own(target)
        # Marks are at 0, 2, 4 and 6 here, at 0, 4, 8 and 12 there.
        self.assertEqual([mirror.place_there(0, place) for place in range(9)], [0, 1, 4, 5, 8, 9, 12, 13, 13])
        mirror = Mirror(source, Log(1), each=1)
        for _ in range(7):
            mirror.carry(0, 1)
            own(mirror.target)
        self.assertEqual([mirror.place_there(0, place) for place in range(8)], [0, 2, 4, 6, 8, 10, 12, 13])


class Drawn(unittest.TestCase):
    def test_none_is_left_out_and_each_is_carried_once(self):
        for seed in range(120):
            chance = random.Random(seed)
            source, target = Log(1), Log(1)
            mirror = Mirror(source, target, chance.randrange(1, 5))
            made = 0
            gone = {}
            for _ in range(40):
                what = chance.randrange(6)
                if what < 2:
                    source.parts[0].append((), (made,), 0)
                    made += 1
                elif what == 2:
                    own(target)
                elif what == 3:
                    place = chance.randrange(made + 1)
                    gone.update({n: True for n in range(mirror.places[0], place)})
                    source.parts[0].trim(place)
                else:
                    mirror.carry(0, chance.randrange(4))
                carried = [row for row in rows(target) if row != "own"]
                self.assertEqual(carried, [n for n in range(mirror.places[0]) if n not in gone])
                self.assertEqual(mirror.lag(0), len([n for n in range(mirror.places[0], made) if n not in gone]))
                told = [mirror.place_there(0, place) for place in range(made + 2)]
                self.assertEqual(told, sorted(told))
                for place, there in enumerate(told):
                    self.assertTrue(all(number < place for number in rows(target)[:there] if number != "own"))


if __name__ == "__main__":
    unittest.main()
