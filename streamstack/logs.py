"""Logs: rows kept in parts, each in the order in which they came, on disks that may go down."""

from streamstack.errors import LogError, RowError
from streamstack.rows import ByteReader, hash_of, natural_bytes, row_bytes

MOST_PARTS = 16
CHECK_BYTES = 4
CHECK_BASE = 65521


def sum_of_bytes(data):
    """Return the checksum of bytes, as four bytes: two sums by 65521, the second one first, higher bytes first.

    The first sums bytes, from 1 on, the second the first one's values behind each byte, from 0 on.
    """
    first = 1
    second = 0
    for byte in data:
        first = (first + byte) % CHECK_BASE
        second = (second + first) % CHECK_BASE
    return (second // 256, second % 256, first // 256, first % 256)


def record_bytes(key, row, time):
    """Return the bytes of a record: their length, a key's row, a row, a time, and the checksum of these three."""
    body = row_bytes(key) + row_bytes(row) + natural_bytes(time)
    return natural_bytes(len(body)) + body + sum_of_bytes(body)


def read_records(data):
    """Return (list of (key, row, time), how many bytes they have) of the whole records at the beginning of bytes."""
    found = []
    reader = ByteReader(data)
    whole = 0
    record = read_record(reader)
    while record is not None:
        found.append(record)
        whole = reader.place
        record = read_record(reader)
    return found, whole


def read_record(reader):
    """Return the next record, None if no whole one follows."""
    try:
        many = reader.natural()
        begin = reader.place
        end = begin + many
        body = reader.data[begin:end]
        if reader.data[end:end + CHECK_BYTES] != sum_of_bytes(body):
            return None
        record = (reader.row(), reader.row(), reader.natural())
    except RowError:
        return None
    # The body's length must be just what its three parts have.
    if reader.place != end:
        return None
    reader.place = end + CHECK_BYTES
    return record


class Part:
    """A part of a log: the bytes that are kept, those that wait, the records, and the place of the first one."""

    def __init__(self):
        self.kept = ()
        self.waiting = ()
        self.records = []
        self.first = 0

    def append(self, key, row, time):
        """Add a record that waits, and return its place; raise LogError for a time below 0."""
        if time < 0:
            raise LogError("a time below 0")
        self.waiting = self.waiting + record_bytes(key, row, time)
        self.records.append((key, row, time))
        return self.end() - 1

    def sync(self):
        """Keep all records."""
        self.kept = self.kept + self.waiting
        self.waiting = ()

    def end(self):
        """Return the place behind the last record."""
        return self.first + len(self.records)

    def crash(self, many):
        """Go down and come up: so many of the bytes that waited are kept; of what was cut nothing is left."""
        left = self.kept + self.waiting[:max(many, 0)]
        self.records, whole = read_records(left)
        self.kept = left[:whole]
        self.waiting = ()

    def read(self, place, most):
        """Return (place, record) of at most so many records from a place on; raise LogError for one not there.

        The place behind the last record is there, and has none.
        """
        if not self.first <= place <= self.end():
            raise LogError(f"no place {place}")
        begin = place - self.first
        return tuple(enumerate(self.records[begin:begin + max(most, 0)], start=place))

    def trim(self, place):
        """Forget the records before a place, as far as they are there; they are gone from the bytes, too.

        What waited is kept. Return how many went.
        """
        many = min(max(place - self.first, 0), len(self.records))
        left = self.records[many:]
        found = []
        for key, row, time in left:
            found.extend(record_bytes(key, row, time))
        self.kept = tuple(found)
        self.waiting = ()
        self.records = left
        self.first += many
        return many


class Log:
    """A log of some parts; a record's part is the hash of its key by their number."""

    def __init__(self, many):
        if not 0 < many <= MOST_PARTS:
            raise LogError(f"a log cannot have {many} parts")
        self.parts = [Part() for _ in range(many)]

    def part_of(self, key):
        """Return the number of a key's part."""
        return hash_of(key) % len(self.parts)

    def append(self, key, row, time):
        """Add a record that waits, and return (part, place)."""
        number = self.part_of(key)
        return (number, self.parts[number].append(key, row, time))

    def sync(self):
        """Keep all records of all parts."""
        for part in self.parts:
            part.sync()

    def latest(self):
        """Return a table of keys to the row of each one's last record."""
        found = {}
        for part in self.parts:
            for key, row, _ in part.records:
                found[key] = row
        return found


class Producer:
    """A name that adds to a log, and the number of its next record; what it sends twice is added once."""

    def __init__(self, name):
        self.name = name
        self.next_number = 0

    def send(self, door, key, row, time):
        """Send a record by a door with the next number, and return what the door tells."""
        told = door.take(self.name, self.next_number, key, row, time)
        self.next_number += 1
        return told


class Door:
    """A log, and by names the number of the record that is due next and where each one went."""

    def __init__(self, log):
        self.log = log
        # The number that is due is that of the places so far, as they stand in order from 0 on.
        self.places = {}

    def take(self, name, number, key, row, time):
        """Add a record, and return (part, place); one that was added before is not, and its place told again.

        Raise LogError for a number behind the one that is due.
        """
        due = len(self.places.get(name, []))
        if not 0 <= number <= due:
            raise LogError(f"the number {due} is due")
        if number < due:
            return self.places[name][number]
        told = self.log.append(key, row, time)
        self.places.setdefault(name, []).append(told)
        return told
