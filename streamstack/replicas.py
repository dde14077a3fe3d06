"""Replicas: copies of a part of a log, one of which leads, so that what was told to be kept is never lost."""

from streamstack.errors import LogError

MOST_COPIES = 9


class Copy:
    """(time of a leader, row) records, how far it knows that all are kept, and whether it is up."""

    def __init__(self):
        self.records = []
        self.firm = 0
        self.is_up = True

    def end_of(self, time):
        """Return (the greatest time up to a time that some record has, the place behind the last record of it).

        (0, 0) without any.
        """
        for place in reversed(range(len(self.records))):
            if self.records[place][0] <= time:
                return (self.records[place][0], place + 1)
        return (0, 0)


class Replicas:
    """Copies by name, the leader or None, the leader's time, the copies that keep up, and how many must for a record.

    A new leader's time is one more than the one before. What lies below the firm place is kept by all that keep up.
    """

    def __init__(self, names, least):
        fits = 0 < least <= len(names) <= MOST_COPIES
        if not fits or len({name: True for name in names}) != len(names):
            raise LogError("no such copies")
        self.copies = {name: Copy() for name in names}
        self.leader = names[0]
        self.time = 1
        self.keeping = sorted(names)
        self.least = least

    def leading(self):
        """Return the copy that leads; raise LogError if nobody does."""
        if self.leader is None:
            raise LogError("nobody leads")
        return self.copies[self.leader]

    def append(self, row):
        """Add a row at the leader and return its place; raise LogError if nobody leads, or too few keep up."""
        leader = self.leading()
        if len(self.keeping) < self.least:
            raise LogError("too few keep up")
        leader.records.append((self.time, row))
        self.make_firm()
        return len(leader.records) - 1

    def make_firm(self):
        """Let the leader's firm place, if one leads, be the least end of those that keep up; it never goes back."""
        if self.leader is not None:
            ends = [len(self.copies[name].records) for name in self.keeping]
            leader = self.copies[self.leader]
            leader.firm = max(leader.firm, min(ends))

    def is_kept(self, place):
        """Return True if a place lies below what the leader knows to be kept; raise LogError if nobody leads."""
        return place < self.leading().firm

    def pull(self, name, many):
        """Let a copy that is up and does not lead follow: first it cuts off what the leader has not, then takes rows.

        What it cuts off lies behind the end of its last leader's time that both have. It takes at most so many rows;
        one that has all then keeps up. Raise LogError for a copy that is down, leads, or is unknown, or if nobody
        leads.
        """
        leader = self.leading()
        if name not in self.copies or name == self.leader or not self.copies[name].is_up:
            raise LogError(f"{name} cannot follow")
        follower = self.copies[name]
        self.cut(follower)
        begin = len(follower.records)
        follower.records = follower.records + leader.records[begin:begin + max(many, 0)]
        if len(follower.records) == len(leader.records) and name not in self.keeping:
            self.keeping = sorted(self.keeping + [name])
        self.make_firm()
        follower.firm = min(leader.firm, len(follower.records))

    def cut(self, follower):
        """Let a copy cut off what the leader has not."""
        leader = self.leading()
        time, mine = follower.end_of(self.time)
        found, theirs = leader.end_of(time)
        # A time that only one of both has tells nothing: go back to the last one that both have.
        while found != time:
            time, mine = follower.end_of(found)
            found, theirs = leader.end_of(time)
        follower.records = follower.records[:min(mine, theirs)]

    def go_down(self, name):
        """Let a copy go down: it keeps up no more, but the last one that did stays; if it led, nobody does.

        Raise LogError for one that is down or unknown.
        """
        if name not in self.copies or not self.copies[name].is_up:
            raise LogError(f"{name} cannot go down")
        copy = self.copies[name]
        copy.is_up = False
        if self.leader == name:
            self.leader = None
        if self.keeping != [name]:
            self.keeping = [one for one in self.keeping if one != name]
        self.make_firm()

    def come_up(self, name):
        """Let a copy come up again; raise LogError for one that is up or unknown."""
        if name not in self.copies or self.copies[name].is_up:
            raise LogError(f"{name} cannot come up")
        copy = self.copies[name]
        copy.is_up = True

    def elect(self):
        """Let the first copy by name that keeps up and is up lead, in a new time, if nobody does; return who leads.

        Those that keep up cut off at once what it has not, as in pull; those that are down keep up no more.
        """
        able = [name for name in self.keeping if self.copies[name].is_up]
        if self.leader is not None or able == []:
            return self.leader
        self.leader = able[0]
        self.time += 1
        self.keeping = able
        for name in able:
            self.cut(self.copies[name])
        self.make_firm()
        return self.leader

    def drop_slow(self, name):
        """Let a copy that lacks records of the leader's keep up no more; raise LogError for others, or no leader."""
        leader = self.leading()
        if name not in self.keeping or name == self.leader or len(self.copies[name].records) == len(leader.records):
            raise LogError(f"{name} is not slow")
        self.keeping = [one for one in self.keeping if one != name]
        self.make_firm()

    def read(self, name, place):
        """Return the rows from a place on that a copy knows to be kept; raise LogError for an unknown copy."""
        if name not in self.copies:
            raise LogError(f"no copy {name}")
        copy = self.copies[name]
        return tuple([row for _, row in copy.records[max(place, 0):copy.firm]])
