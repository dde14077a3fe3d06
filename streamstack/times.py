"""Times: how far each source has told of, and windows of time."""

from streamstack.errors import JobError


class Marks:
    """By channels, up to which time each has told of all, and which are idle; the least of the others counts."""

    def __init__(self, names):
        self.marks = {name: 0 for name in names}
        self.idle = {}
        self.now = 0

    def tell(self, name, time):
        """Note that a channel has told of all before a time, and return the time that counts now.

        It never goes back; a channel that tells is idle no more. Raise JobError for an unknown channel.
        """
        self.need(name)
        self.marks[name] = max(self.marks[name], time)
        if name in self.idle:
            del self.idle[name]
        return self.time_now()

    def rest(self, name):
        """Note that a channel is idle, and return the time that counts now; if all are, it stays."""
        self.need(name)
        self.idle[name] = True
        return self.time_now()

    def need(self, name):
        """Raise JobError for an unknown channel."""
        if name not in self.marks:
            raise JobError(f"no channel {name}")

    def time_now(self):
        """Return the time that counts now."""
        awake = [time for name, time in self.marks.items() if name not in self.idle]
        self.now = max(self.now, min(awake, default=0))
        return self.now


class Windows:
    """Windows of a length that begin each so many steps of time; a time stands in all that have it."""

    def __init__(self, length, step):
        if not 0 < step <= length:
            raise JobError("windows must leave no time out")
        self.length = length
        self.step = step

    def around(self, time):
        """Return the (begin, end) of the windows that have a time, ascending; none begins before 0."""
        first = max((time - self.length) // self.step + 1, 0)
        begins = [number * self.step for number in range(first, time // self.step + 1)]
        return tuple([(begin, begin + self.length) for begin in begins])


class Sessions:
    """Spans of time in which something came at least each so many steps."""

    def __init__(self, gap):
        if gap < 1:
            raise JobError("a session needs a gap")
        self.gap = gap

    def joined(self, spans, time):
        """Return (spans with a time in them, ascending, the span that has it, the spans that went into it), all tuples.

        A time alone spans as long as the gap; spans that share a time are put together.
        """
        alone = (time, time + self.gap)
        inner = tuple([span for span in spans if span[0] < alone[1] and alone[0] < span[1]])
        others = [span for span in spans if span not in inner]
        begin = min([alone[0]] + [span[0] for span in inner])
        end = max([alone[1]] + [span[1] for span in inner])
        return (tuple(sorted(others + [(begin, end)])), (begin, end), inner)
