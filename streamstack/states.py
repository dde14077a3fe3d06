"""States: what steps keep of each key, what they give for a record and for a time that has come, and how it is told."""

from streamstack.bags import row_rank
from streamstack.errors import SnapshotError
from streamstack.jobs import inputs_of, total_row, whole_each
from streamstack.rows import hash_of
from streamstack.times import Sessions, Windows

GROUPS = 32


def group_of(key):
    """Return the number of a key's group, from 0 to 31: the hash of the key by 32."""
    return hash_of(key) % GROUPS


class PlainState:
    """Of an "each", a "key", a "join" or a "sink": nothing is kept."""

    def __init__(self, step, shapes):
        self.step = step
        self.shapes = list(shapes)
        self.late = 0

    def take(self, place, record, mark):
        """Return the records that a step gives for one."""
        if self.step[0] == "join":
            return [record]
        return whole_each(self.step, self.shapes[0], [record])

    def come(self, mark):
        """Return the records that a step gives when a time has come."""
        return []

    def all_over(self):
        """Return the records that a step gives when nothing more comes."""
        return []

    def shown(self):
        """Return a table of groups to what is kept of their keys."""
        return {}

    def put(self, told):
        """Take what was shown of a group; raise SnapshotError if it does not fit."""
        raise SnapshotError("nothing is kept")


class TotalState:
    """Of a "total": rows by key and window; those of a window whose end has come are too late, and counted."""

    def __init__(self, step, shapes):
        self.step = step
        self.shapes = list(shapes)
        self.windows = Windows(step[2], step[3])
        self.kept = {}
        self.late = 0

    def take(self, place, record, mark):
        """Keep a record's row in its windows."""
        key, row, time = record
        for span in self.windows.around(time):
            if span[1] <= mark:
                self.late += 1
            else:
                self.kept.setdefault(key, {}).setdefault(span, []).append(row)
        return []

    def come(self, mark):
        """Return the totals of windows whose end has come, by ends, then keys."""
        return totals_until(self, mark)

    def all_over(self):
        """Return the totals of all windows, as nothing more comes."""
        return totals_until(self, last_end(self.kept))

    def shown(self):
        """Return a table of groups to ((key, span), rows), ascending."""
        return shown_spans(self.kept)

    def put(self, told):
        """Take what was shown of a group."""
        put_spans(self.kept, told)


class SessionState:
    """Of a "session": rows by key and span; a row is too late if its span, joined with others, has come."""

    def __init__(self, step, shapes):
        self.step = step
        self.shapes = list(shapes)
        self.sessions = Sessions(step[2])
        self.kept = {}
        self.late = 0

    def take(self, place, record, mark):
        """Keep a record's row, and put spans together."""
        key, row, time = record
        spans = self.kept.get(key, {})
        _, span, inner = self.sessions.joined(tuple(sorted(spans)), time)
        if span[1] <= mark:
            self.late += 1
            return []
        fresh = {one: rows for one, rows in spans.items() if one not in inner}
        fresh[span] = [told for one in inner for told in spans[one]] + [row]
        self.kept[key] = fresh
        return []

    def come(self, mark):
        """Return the totals of spans whose end has come, by ends, then keys."""
        return totals_until(self, mark)

    def all_over(self):
        """Return the totals of all spans, as nothing more comes."""
        return totals_until(self, last_end(self.kept))

    def shown(self):
        """Return a table of groups to ((key, span), rows), ascending."""
        return shown_spans(self.kept)

    def put(self, told):
        """Take what was shown of a group."""
        put_spans(self.kept, told)


class MeetState:
    """Of a "meet": (row, time) of both sides by key, as long as others can meet them."""

    def __init__(self, step, shapes):
        self.step = step
        self.shapes = list(shapes)
        self.sides = ({}, {})
        self.late = 0

    def take(self, place, record, mark):
        """Return the records of those of the other side that a record meets, in the order in which they came."""
        key, row, time = record
        found = []
        for other, when in self.sides[1 - place].get(key, []):
            if abs(time - when) <= self.step[3]:
                both = row + other if place == 0 else other + row
                found.append((key, both, max(time, when)))
        self.sides[place].setdefault(key, []).append((row, time))
        return found

    def come(self, mark):
        """Forget rows that nothing that comes can meet."""
        gap = self.step[3]
        self.sides = (side_from(self.sides[0], mark - gap), side_from(self.sides[1], mark - gap))
        return []

    def all_over(self):
        """Forget all rows, as nothing more comes."""
        self.sides = ({}, {})
        return []

    def shown(self):
        """Return a table of groups to (side, key, rows)."""
        found = {}
        for number, side in enumerate(self.sides):
            for key in sorted(side, key=key_rank):
                found.setdefault(group_of(key), []).append((number, key, tuple(side[key])))
        return {group: tuple(told) for group, told in found.items()}

    def put(self, told):
        """Take what was shown of a group."""
        for number, key, rows in told:
            self.sides[number][key] = list(rows)


def side_from(side, first):
    """Return the table of a side with the rows whose time is not before a first one."""
    left = {key: [(row, time) for row, time in rows if time >= first] for key, rows in side.items()}
    return {key: rows for key, rows in left.items() if rows != []}


def last_end(kept):
    """Return the last end of all spans that are kept."""
    return max([span[1] for spans in kept.values() for span in spans], default=0)


def spans_until(kept, mark):
    """Return the list of the (key, span) of a table of keys to tables of spans whose end has come, ascending."""
    return sorted([(key, span) for key, spans in kept.items() for span in spans if span[1] <= mark], key=span_rank)


def totals_until(state, mark):
    """Return the totals of a state's spans whose end has come, by ends, then keys; they are kept no more."""
    over = spans_until(state.kept, mark)
    found = []
    for key, span in over:
        found.append((key, total_row(state.step, state.shapes[0], span, state.kept[key][span]), span[1] - 1))
    if over != []:
        state.kept = kept_behind(state.kept, mark)
    return found


def kept_behind(kept, mark):
    """Return a table of keys to tables of spans without those whose end has come."""
    left = {key: {span: rows for span, rows in spans.items() if span[1] > mark} for key, spans in kept.items()}
    return {key: spans for key, spans in left.items() if spans != {}}


def shown_spans(kept):
    """Return a table of groups to ((key, span), rows), ascending, of what is kept by keys and spans."""
    found = {}
    for key, span in spans_until(kept, last_end(kept)):
        found.setdefault(group_of(key), []).append(((key, span), tuple(kept[key][span])))
    return {group: tuple(told) for group, told in found.items()}


def put_spans(kept, told):
    """Keep ((key, span), rows) that were shown."""
    for (key, span), rows in told:
        kept.setdefault(key, {})[span] = list(rows)


def key_rank(key):
    """Return what a key is ranked by."""
    return (len(key), row_rank(key))


def span_rank(one):
    """Return what a (key, span) is ranked by: the end, the begin, then the key."""
    key, span = one
    return (span[1], span[0], key_rank(key))


def state_of(job, name):
    """Return a fresh state of a step."""
    step = job.steps[name]
    shapes = [job.shapes[one] for one in inputs_of(step)]
    if step[0] == "total":
        return TotalState(step, shapes)
    if step[0] == "session":
        return SessionState(step, shapes)
    if step[0] == "meet":
        return MeetState(step, shapes)
    return PlainState(step, shapes)
