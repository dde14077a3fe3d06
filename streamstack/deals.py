"""Deals: records in several parts of a log that count all together, or not at all."""

from streamstack.errors import LogError

MOST_VALUES = 16
# The first value of a record's row: what a deal has, and how it ended.
OF_DEAL = 0
KEPT = 1
DROPPED = 2


class DealDoor:
    """A log whose records tell their deal, the age of each name, the open deals, and the first place of each by part.

    A name's deal is (name, age, number). The rows of records begin with the word: 0 for a record of a deal, 1 or 2 at
    a deal's end, kept or dropped; then the name, the age and the number; then what was added.
    """

    def __init__(self, log):
        self.log = log
        self.ages = {}
        self.numbers = {}
        self.open_deals = {}
        self.firsts = {}

    def enter(self, name):
        """Let a name begin anew, and return its age; an open deal of an elder age is dropped."""
        if name in self.open_deals:
            self.end(name, DROPPED)
        self.ages[name] = self.ages.get(name, 0) + 1
        return self.ages[name]

    def need(self, name, age):
        """Raise LogError for an unknown name, or another age than its newest."""
        if self.ages.get(name) != age:
            raise LogError(f"{name} is unknown, or has another age")

    def begin(self, name, age):
        """Begin a deal and return its number; raise LogError if one is open, or by need."""
        self.need(name, age)
        if name in self.open_deals:
            raise LogError(f"{name} has an open deal")
        number = self.numbers.get(name, 0) + 1
        self.numbers[name] = number
        self.open_deals[name] = (name, age, number)
        self.firsts[name] = {}
        return number

    def add(self, name, age, key, row, time):
        """Add a record of the open deal and return (part, place); raise LogError if none is open, or by need.

        A row has at most sixteen values.
        """
        self.need(name, age)
        if name not in self.open_deals or len(row) > MOST_VALUES:
            raise LogError(f"{name} has no open deal, or the row is too long")
        part, place = self.log.append(key, (OF_DEAL,) + self.open_deals[name] + row, time)
        self.firsts[name].setdefault(part, place)
        return (part, place)

    def commit(self, name, age):
        """Let the open deal count; raise LogError if none is open, or by need."""
        self.need_open(name, age)
        self.end(name, KEPT)

    def drop(self, name, age):
        """Let the open deal not count; raise LogError if none is open, or by need."""
        self.need_open(name, age)
        self.end(name, DROPPED)

    def need_open(self, name, age):
        """Raise LogError if no deal is open, or by need."""
        self.need(name, age)
        if name not in self.open_deals:
            raise LogError(f"{name} has no open deal")

    def end(self, name, word):
        """Write a deal's end into each part that has records of it, in order."""
        row = (word,) + self.open_deals[name]
        for part in sorted(self.firsts[name]):
            self.log.parts[part].append((name,), row, 0)
        del self.open_deals[name]
        del self.firsts[name]

    def firm_end(self, part):
        """Return the place up to which all of a part is decided: that of an open deal's first record, or the end."""
        places = [firsts[part] for firsts in self.firsts.values() if part in firsts]
        return min(places, default=self.log.parts[part].end())


def read_kept(part, end):
    """Return (place, key, row, time) of the records of deals that count, in order, before a place of a part.

    A record counts if its deal's end, wherever it stands in the part, tells that it was kept.
    """
    told = part.read(part.first, len(part.records))
    kept = {record[1][1:4]: True for _, record in told if record[1][:1] == (KEPT,)}
    found = []
    for place, record in told:
        key, row, time = record
        if place < end and row[:1] == (OF_DEAL,) and row[1:4] in kept:
            found.append((place, key, row[4:], time))
    return tuple(found)
