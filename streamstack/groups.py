"""Groups: members who share a log's parts, each part read by one at a time, and how far each was read."""

from streamstack.errors import GroupError


def shares_of(members, many, old=()):
    """Return a table of members to parts, as many as can be where they were, and none with two more than another.

    old is the table before. In the order of their names members keep their parts, the least first, as long as they
    have no more than they should: the whole rounded down, and one more for as many members as are left over, first
    those who had more. Parts that nobody keeps go, the least first, to the member with the fewest, the first by name.
    """
    names = sorted(members)
    if names == []:
        return {}
    had = dict(old)
    before = {name: parts_before(had.get(name, ()), many) for name in names}
    most = most_of(before, many)
    found = {}
    taken = {}
    for name in names:
        found[name] = [part for part in before[name] if part not in taken][:most[name]]
        for part in found[name]:
            taken[part] = True
    for part in range(many):
        if part not in taken:
            found[min(names, key=lambda name: len(found[name]))].append(part)
    return {name: tuple(sorted(found[name])) for name in names}


def parts_before(parts, many):
    """Return the list of those parts that are there, each once, ascending."""
    return sorted({part: True for part in parts if part < many})


def most_of(before, many):
    """Return a table of members, of a table of the parts that each had by names, to how many parts each may keep."""
    whole = many // len(before)
    left = many - whole * len(before)
    # Sorting keeps the order of names among those who had as many.
    ranked = sorted(before, key=lambda name: -len(before[name]))
    return {name: whole + 1 if place < left else whole for place, name in enumerate(ranked)}


class Group:
    """How many parts, members with the time when each was last heard, how long one may be silent, and the shares.

    The number of the group's time (its generation) goes up with each change of members; places by part are how far
    they were read.
    """

    def __init__(self, many, length):
        if many < 1 or length < 1:
            raise GroupError("no parts, or no time to be silent")
        self.many = many
        self.heard = {}
        self.length = length
        self.shares = {}
        self.generation = 0
        self.places = {}

    def join(self, name, time):
        """Let a member join and return the generation; raise GroupError if it is there."""
        self.look(time)
        if name in self.heard:
            raise GroupError(f"{name} is a member")
        self.heard[name] = time
        self.share()
        return self.generation

    def leave(self, name, time):
        """Let a member leave; raise GroupError if it is not there."""
        self.need(name, time)
        del self.heard[name]
        self.share()

    def share(self):
        """Share the parts anew behind a change of members, in the next generation."""
        self.shares = shares_of(list(self.heard), self.many, self.shares)
        self.generation += 1

    def need(self, name, time):
        """Raise GroupError for one who is no member at a time."""
        self.look(time)
        if name not in self.heard:
            raise GroupError(f"{name} is no member")

    def beat(self, name, time):
        """Note that a member was heard, and return (generation, its parts); raise GroupError."""
        self.need(name, time)
        self.heard[name] = time
        return (self.generation, self.shares[name])

    def look(self, time):
        """Let members go who were silent for too long."""
        left = {name: heard for name, heard in self.heard.items() if time - heard < self.length}
        if len(left) < len(self.heard):
            self.heard = left
            self.share()

    def note(self, name, generation, part, place, time):
        """Note how far a member read a part; raise GroupError for an elder generation, another's part, or backwards."""
        self.need(name, time)
        if generation != self.generation or part not in self.shares[name]:
            raise GroupError("the part is not the member's now")
        if place < self.places.get(part, 0):
            raise GroupError("the part was read further")
        self.places[part] = place
