"""Mirrors: a log's records carried to another log, and places told across, so that readers can go on over there."""

from streamstack.errors import LogError


class Mirror:
    """Two logs of as many parts, how far each part was carried here and there, and (place here, place there) marks.

    The other log may have records of its own ahead, and gets each record once.
    """

    def __init__(self, source, target, each=5):
        if len(source.parts) != len(target.parts) or each < 1:
            raise LogError("the logs do not fit each other, or no record lies between marks")
        self.source = source
        self.target = target
        self.each = each
        self.places = [0 for _ in source.parts]
        self.ends = [0 for _ in source.parts]
        self.marks = [[] for _ in source.parts]

    def need(self, part, place):
        """Raise LogError for a part that is not there, or a place below 0."""
        if not 0 <= part < len(self.places) or place < 0:
            raise LogError("no such part, or a place below 0")

    def carry(self, part, many):
        """Carry at most so many records of a part, and return how many; raise LogError for no such part.

        A mark is noted at the first one, at the first behind some that were cut off before they were carried, and
        where the last mark is as far ago as each tells.
        """
        self.need(part, 0)
        told = self.source.parts[part].read(self.begin_of(part), many)
        for here, record in told:
            key, row, time = record
            there = self.target.parts[part].append(key, row, time)
            self.mark(part, here, there)
            self.places[part] = here + 1
            self.ends[part] = there + 1
        return len(told)

    def begin_of(self, part):
        """Return the place of the next record to be carried, or the end of the part here."""
        here = self.source.parts[part]
        # What waited here and was carried can be lost here, so that the end lies ahead.
        return min(max(self.places[part], here.first), here.end())

    def mark(self, part, here, there):
        """Note a mark at a record that is being carried, where one is due."""
        marks = self.marks[part]
        if marks == [] or here > self.places[part] or here - marks[-1][0] >= self.each:
            marks.append((here, there))

    def place_there(self, part, place):
        """Return from which place over there one must read who has read up to a place here: none is left out.

        It lies as far behind the last mark up to the place as that does here, but not behind the next mark, or the
        last record that was carried. It is the first mark's for places ahead of that, and the end without any mark.
        Raise LogError for no such part, or a place below 0.
        """
        self.need(part, place)
        found = None
        for here, there in self.marks[part]:
            if here > place:
                return there if found is None else min(found, there)
            found = there + place - here
        return self.end_there(part) if found is None else min(found, self.end_there(part))

    def end_there(self, part):
        """Return the place behind the last record that was carried over there, 0 before the first."""
        return self.ends[part]

    def lag(self, part):
        """Return how many records of a part are not carried yet."""
        return self.source.parts[part].end() - self.begin_of(part)
