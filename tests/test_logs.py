"""[7]: records in parts, their bytes and checksums, what is kept and what waits, logs, producers and doors."""

import random
import unittest
import zlib

from streamstack.errors import LogError, RowError
from streamstack.logs import Door, Log, Part, Producer, read_records, record_bytes, sum_of_bytes
from streamstack.rows import hash_of, natural_bytes, row_bytes

ONE = (("k",), (1, "one"), 0)
TWO = ((), (-2,), 300)
THREE = ((3, "three"), (), 7)
ALL = [ONE, TWO, THREE]


def bytes_of(records):
    return tuple(byte for record in records for byte in record_bytes(*record))


def part_of(records, waiting=()):
    """Return a part with some records that are kept, and some that wait."""
    part = Part()
    for record in records:
        part.append(*record)
    part.sync()
    for record in waiting:
        part.append(*record)
    return part


def state(part):
    return (part.kept, part.waiting, list(part.records), part.first)


class Sums(unittest.TestCase):
    def test_of_no_bytes_and_of_few(self):
        self.assertEqual(sum_of_bytes(()), (0, 0, 0, 1))
        self.assertEqual(sum_of_bytes((0,)), (0, 1, 0, 1))
        self.assertEqual(sum_of_bytes((255, 1)), (2, 1, 1, 1))

    def test_of_long_ones(self):
        chance = random.Random(7)
        told = [(255,) * 256, (255,) * 257, (255,) * 258, (255,) * 70000, tuple(range(256)) * 300]
        told += [tuple(chance.randrange(256) for _ in range(chance.randrange(2000))) for _ in range(20)]
        for data in told:
            self.assertEqual(sum_of_bytes(data), tuple(zlib.adler32(bytes(data)).to_bytes(4, "big")))

    def test_at_65521_itself(self):
        data = (255,) * 256 + (240,)
        self.assertEqual(1 + sum(data), 65521)
        self.assertEqual(sum_of_bytes(data)[2:], (0, 0))


class Bytes(unittest.TestCase):
    def test_a_record(self):
        body = (1, 0, 5, 0, 172, 2)
        self.assertEqual(record_bytes((5,), (), 300), (6,) + body + sum_of_bytes(body))
        for key, row, time in ALL:
            body = row_bytes(key) + row_bytes(row) + natural_bytes(time)
            self.assertEqual(record_bytes(key, row, time), natural_bytes(len(body)) + body + sum_of_bytes(body))

    def test_a_long_one_tells_its_length_by_two_bytes(self):
        data = record_bytes(("x" * 200,), (), 0)
        self.assertEqual(data[:2], natural_bytes(len(data) - 6))
        self.assertEqual(read_records(data), ([(("x" * 200,), (), 0)], len(data)))

    def test_rows_that_have_no_bytes(self):
        for key, row in (((None,), ()), ((), (True,)), (("\t",), ()), ((), ("\u00e9",))):
            with self.assertRaises(RowError):
                record_bytes(key, row, 0)

    def test_what_is_read_back(self):
        self.assertEqual(read_records(()), ([], 0))
        self.assertEqual(read_records(bytes_of(ALL)), (ALL, len(bytes_of(ALL))))

    def test_bytes_that_are_cut_at_each_place(self):
        data = bytes_of(ALL)
        ends = [len(bytes_of(ALL[:many])) for many in range(4)]
        for place in range(len(data) + 1):
            many = sum(1 for end in ends[1:] if end <= place)
            self.assertEqual(read_records(data[:place]), (ALL[:many], ends[many]))

    def test_bytes_one_of_which_is_bent(self):
        data = bytes_of(ALL)
        ends = [len(bytes_of(ALL[:many])) for many in range(4)]
        for place in range(len(data)):
            for by in (1, 2, 77, 128, 255):
                bent = data[:place] + ((data[place] + by) % 256,) + data[place + 1:]
                many = sum(1 for end in ends[1:] if end <= place)
                with self.subTest(place=place, by=by):
                    self.assertEqual(read_records(bent), (ALL[:many], ends[many]))

    def test_whole_bodies_that_are_no_record(self):
        for body in ((), (0,), (0, 0), (0, 0, 0, 0), (0, 0, 128), (0, 0, 128, 0), (21,) + (0, 0) * 21 + (0, 0),
                     (1, 3, 0, 0, 0), (1, 2, 1, 95, 0, 0)):
            data = natural_bytes(len(body)) + body + sum_of_bytes(body)
            self.assertEqual(read_records(data), ([], 0), body)
            self.assertEqual(read_records(bytes_of([ONE]) + data + bytes_of([TWO])), ([ONE], len(bytes_of([ONE]))))

    def test_a_length_that_is_told_too_long(self):
        body = (0, 0, 0)
        self.assertEqual(read_records((3,) + body + sum_of_bytes(body)), ([((), (), 0)], 8))
        self.assertEqual(read_records((131, 0) + body + sum_of_bytes(body)), ([], 0))

    def test_a_record_that_would_go_on_into_the_checksum(self):
        body = (0, 0)
        data = (2,) + body + sum_of_bytes(body)
        self.assertEqual(read_records(data), ([], 0))


class Parts(unittest.TestCase):
    def test_a_fresh_part(self):
        part = Part()
        self.assertEqual(state(part), ((), (), [], 0))
        self.assertEqual((part.end(), part.read(0, 5)), (0, ()))

    def test_what_waits_and_what_is_kept(self):
        part = Part()
        self.assertEqual(part.append(*ONE), 0)
        self.assertEqual(part.append(*TWO), 1)
        self.assertEqual(state(part), ((), bytes_of([ONE, TWO]), [ONE, TWO], 0))
        self.assertIsNone(part.sync())
        self.assertEqual(state(part), (bytes_of([ONE, TWO]), (), [ONE, TWO], 0))
        self.assertEqual(part.append(*THREE), 2)
        self.assertEqual(state(part), (bytes_of([ONE, TWO]), bytes_of([THREE]), ALL, 0))
        self.assertEqual(part.end(), 3)

    def test_what_cannot_be_added(self):
        part = part_of([ONE], [TWO])
        before = state(part)
        with self.assertRaises(LogError):
            part.append((), (), -1)
        for key, row in (((None,), ()), ((), (True,))):
            with self.assertRaises(RowError):
                part.append(key, row, 0)
        self.assertEqual(state(part), before)

    def test_going_down_at_each_byte_that_waited(self):
        waiting = bytes_of([TWO, THREE])
        for many in range(-2, len(waiting) + 3):
            part = part_of([ONE], [TWO, THREE])
            self.assertIsNone(part.crash(many))
            left = 2 if many >= len(waiting) else 1 if many >= len(bytes_of([TWO])) else 0
            with self.subTest(many=many):
                self.assertEqual(state(part), (bytes_of(ALL[:1 + left]), (), ALL[:1 + left], 0))
                self.assertEqual(part.append(*TWO), 1 + left)
                part.sync()
                self.assertEqual(part.kept, bytes_of(ALL[:1 + left] + [TWO]))

    def test_going_down_behind_a_trim(self):
        part = part_of([ONE, TWO], [])
        part.trim(1)
        part.append(*THREE)
        part.crash(1)
        self.assertEqual(state(part), (bytes_of([TWO]), (), [TWO], 1))

    def test_going_down_with_bent_bytes(self):
        part = part_of(ALL)
        place = len(bytes_of([ONE])) + 2
        part.kept = part.kept[:place] + ((part.kept[place] + 1) % 256,) + part.kept[place + 1:]
        part.crash(0)
        self.assertEqual(state(part), (bytes_of([ONE]), (), [ONE], 0))

    def test_reading(self):
        part = part_of(ALL)
        self.assertEqual(part.read(0, 1), ((0, ONE),))
        self.assertEqual(part.read(0, 9), tuple(enumerate(ALL)))
        self.assertEqual(part.read(1, 2), ((1, TWO), (2, THREE)))
        self.assertEqual(part.read(3, 2), ())
        self.assertEqual((part.read(1, 0), part.read(0, -1)), ((), ()))
        part.trim(1)
        self.assertEqual(part.read(1, 1), ((1, TWO),))
        for place in (-1, 0, 4):
            with self.assertRaises(LogError):
                part.read(place, 1)
        part.trim(3)
        self.assertEqual(part.read(3, 1), ())
        with self.assertRaises(LogError):
            part.read(2, 0)

    def test_cutting_off_at_the_front(self):
        for place, many in ((-1, 0), (0, 0), (1, 1), (2, 2), (3, 3), (4, 3)):
            part = part_of([ONE], [TWO, THREE])
            with self.subTest(place=place):
                self.assertEqual(part.trim(place), many)
                self.assertEqual(state(part), (bytes_of(ALL[many:]), (), ALL[many:], many))
                self.assertEqual(part.end(), 3)
        part = part_of(ALL)
        self.assertEqual((part.trim(2), part.trim(1), part.trim(2), part.trim(3)), (2, 0, 0, 1))
        self.assertEqual((part.first, part.append(*ONE)), (3, 3))


class Logs(unittest.TestCase):
    def test_how_many_parts(self):
        for many in (1, 16):
            self.assertEqual(len(Log(many).parts), many)
        for many in (-1, 0, 17):
            with self.assertRaises(LogError):
                Log(many)

    def test_a_part_by_the_hash_of_the_key(self):
        for many in (1, 3, 16):
            log = Log(many)
            ends = [0] * many
            for number in range(60):
                key = (number, "k")
                part = hash_of(key) % many
                self.assertEqual(log.part_of(key), part)
                self.assertEqual(log.append(key, (number,), number), (part, ends[part]))
                ends[part] += 1
            self.assertEqual([part.end() for part in log.parts], ends)
            self.assertEqual([part.kept for part in log.parts], [()] * many)
            self.assertIsNone(log.sync())
            self.assertEqual([part.waiting for part in log.parts], [()] * many)
            self.assertEqual(sum(len(part.kept) > 0 for part in log.parts), len([end for end in ends if end]))

    def test_what_cannot_be_added(self):
        log = Log(2)
        with self.assertRaises(LogError):
            log.append(("k",), (), -1)
        with self.assertRaises(RowError):
            log.append((None,), (), 0)
        with self.assertRaises(RowError):
            log.part_of((None,))
        self.assertEqual([state(part) for part in log.parts], [((), (), [], 0)] * 2)

    def test_the_latest_rows(self):
        log = Log(4)
        self.assertEqual(log.latest(), {})
        for number in range(40):
            log.append((number % 7,), (number,), 100 - number)
        self.assertEqual(log.latest(), {(number % 7,): (number,) for number in range(33, 40)})
        log.parts[log.part_of((0,))].trim(99)
        self.assertNotIn((0,), log.latest())


class Doors(unittest.TestCase):
    def test_a_producer_sends_by_numbers(self):
        log = Log(2)
        door = Door(log)
        self.assertIs(door.log, log)
        producer = Producer("p")
        self.assertEqual((producer.name, producer.next_number), ("p", 0))
        told = [producer.send(door, (number,), (), 0) for number in range(6)]
        self.assertEqual(producer.next_number, 6)
        self.assertEqual(sorted(told), sorted((n, place) for n, part in enumerate(log.parts)
                                              for place in range(part.end())))
        self.assertEqual(told, [door.take("p", number, ("other",), (1,), 9) for number in range(6)])

    def test_what_is_sent_twice_is_added_once(self):
        log = Log(1)
        door = Door(log)
        self.assertEqual(door.take("p", 0, (1,), (), 0), (0, 0))
        self.assertEqual(door.take("q", 0, (2,), (), 0), (0, 1))
        self.assertEqual(door.take("p", 1, (3,), (), 0), (0, 2))
        self.assertEqual(door.take("p", 0, (1,), (), 0), (0, 0))
        self.assertEqual(door.take("q", 0, (2,), (), 0), (0, 1))
        self.assertEqual(log.parts[0].end(), 3)

    def test_a_number_behind_the_one_that_is_due(self):
        log = Log(1)
        door = Door(log)
        for name, number in (("p", 1), ("p", 2)):
            with self.assertRaises(LogError):
                door.take(name, number, (), (), 0)
        self.assertEqual((log.parts[0].end(), door.places), (0, {}))
        door.take("p", 0, (), (), 0)
        with self.assertRaises(LogError):
            door.take("p", 2, (), (), 0)
        self.assertEqual(door.take("p", 1, (), (), 0), (0, 1))

    def test_what_is_refused_takes_no_number(self):
        log = Log(1)
        door = Door(log)
        producer = Producer("p")
        with self.assertRaises(LogError):
            producer.send(door, (), (), -1)
        with self.assertRaises(RowError):
            producer.send(door, (), (None,), 0)
        self.assertEqual((producer.next_number, log.parts[0].end(), door.places), (0, 0, {}))
        self.assertEqual(producer.send(door, (), (), 0), (0, 0))

    def test_a_second_producer_of_the_name_begins_again(self):
        door = Door(Log(1))
        one, other = Producer("p"), Producer("p")
        self.assertEqual([one.send(door, (), (n,), 0) for n in range(2)], [(0, 0), (0, 1)])
        self.assertEqual([other.send(door, (), (n,), 0) for n in range(3)], [(0, 0), (0, 1), (0, 2)])


if __name__ == "__main__":
    unittest.main()
