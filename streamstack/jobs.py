"""Jobs: what is done with records, step by step, and what comes of whole sources.

A record is (key, row, time). Steps have names; each tells what it reads, which stands ahead of it.
"""

from streamstack.bags import row_rank
from streamstack.errors import JobError, QueryError, RowError
from streamstack.plans import kind_of_total, picked, totals_of, values_at
from streamstack.rows import Shape
from streamstack.terms import kind_of_column, kind_of_term, value_of
from streamstack.times import Sessions, Windows

MOST_STEPS = 40
# How many names the steps of each class read.
STEPS = {"source": 0, "each": 1, "key": 1, "join": 2, "total": 1, "session": 1, "meet": 2, "sink": 1}
SPAN_COLUMNS = (("begin", "int"), ("end", "int"))


class Job:
    """Steps by name, in order, and the shape of the rows behind each.

    Steps are ("source", shape), ("each", name, truth or None, ((column, term), ..) or None), ("key", name, columns),
    ("join", name, name), ("total", name, length, step, totals), ("session", name, gap, totals),
    ("meet", name, name, gap) and ("sink", name).
    """

    def __init__(self):
        self.steps = {}
        self.shapes = {}

    def add(self, name, step):
        """Add a step; raise JobError for a name that is taken, and for one that cannot be."""
        if name in self.steps or name == "" or len(self.steps) >= MOST_STEPS or step[0] not in STEPS:
            raise JobError("the name is taken, or empty, or no such step can be added")
        if any(one not in self.steps or self.steps[one][0] == "sink" for one in inputs_of(step)):
            raise JobError(f"{name} reads what cannot be read")
        shape = self.shape_behind(step)
        self.steps[name] = step
        self.shapes[name] = shape

    def shape_behind(self, step):
        """Return the shape of the rows behind a step; raise JobError if its columns or times do not fit."""
        check_spans(step)
        shapes = [self.shapes[one] for one in inputs_of(step)]
        try:
            return shape_of_step(step, shapes)
        except QueryError:
            raise JobError("the terms do not fit the columns") from None
        except RowError:
            raise JobError("the columns cannot be") from None

    def readers(self, name):
        """Return the (name, which input) of the steps that read one, in order."""
        found = []
        for reader, step in self.steps.items():
            for which, one in enumerate(inputs_of(step)):
                if one == name:
                    found.append((reader, which))
        return found

    def of_class(self, word):
        """Return the names of steps of a class, in order."""
        return [name for name, step in self.steps.items() if step[0] == word]


def inputs_of(step):
    """Return the names that a step reads, in order."""
    return step[1:1 + STEPS[step[0]]]


def check_spans(step):
    """Raise JobError for a total's or a session's times that cannot be."""
    if step[0] == "total":
        Windows(step[2], step[3])
    elif step[0] == "session":
        Sessions(step[2])


def shape_of_step(step, shapes):
    """Return the shape of the rows behind a step, by those of its inputs; raise an error if they do not fit."""
    word = step[0]
    if word == "source":
        return step[1]
    if word == "each":
        return shape_of_each(step, shapes[0])
    if word == "key":
        return shape_of_key(step, shapes[0])
    if word == "join":
        return shape_of_join(shapes[0], shapes[1])
    if word == "total" or word == "session":
        return shape_of_totals(step, shapes[0])
    if word == "meet":
        return shape_of_meet(step, shapes[0], shapes[1])
    return shapes[0]


def shape_of_each(step, inner):
    """Return the shape behind an "each"."""
    if step[2] is not None and kind_of_term(step[2], inner) != "truth":
        raise QueryError("where tells no truth")
    if step[3] is None:
        return inner
    columns = [(name, kind_of_term(term, inner)) for name, term in step[3]]
    if any(kind == "truth" for name, kind in columns):
        raise QueryError("a truth is no column")
    return Shape(columns)


def shape_of_key(step, inner):
    """Return the shape behind a "key"; raise QueryError for an unknown column."""
    for name in step[2]:
        kind_of_column(name, inner)
    return inner


def shape_of_join(one, other):
    """Return the shape behind a "join", the first input's; raise JobError if the other one has other kinds."""
    if one.kinds() != other.kinds():
        raise JobError("the columns of the two do not fit")
    return one


def shape_of_totals(step, inner):
    """Return the shape behind a "total" or a "session"; raise JobError for no totals."""
    totals = step[-1]
    if len(totals) == 0:
        raise JobError("no totals")
    columns = [(name, kind_of_total(word, column, inner)) for name, word, column in totals]
    return Shape(SPAN_COLUMNS + tuple(columns))


def shape_of_meet(step, one, other):
    """Return the shape behind a "meet"; raise JobError for a gap below 0."""
    if step[3] < 0:
        raise JobError("a gap below 0")
    return Shape(one.columns + other.columns)


def each_row(step, inner, row):
    """Return the row that an "each" makes of one, None if it leaves it out."""
    if step[2] is not None and not value_of(step[2], row, inner):
        return None
    return row if step[3] is None else picked(step[3], row, inner)


def key_of(step, inner, row):
    """Return the key that a "key" gives a row."""
    return values_at(row, [inner.place_of(name) for name in step[2]])


def total_row(step, inner, span, rows):
    """Return the row of a span of time and the totals of rows."""
    return span + totals_of(step[-1], [(row, 1) for row in rows], inner)


def whole(job, sources):
    """Return a table of sinks to the lists of all their records, ascending as record_rank tells, of whole sources.

    sources is a table of source steps to lists of records. A total has a record for each key and each window with
    rows, at the window's end less 1; a session one for each key's span of time in which rows came one after another,
    at its end less 1; a meeting one for each two records of a key that are at most so far apart, at the later one's
    time.
    """
    behind = {}
    for name, step in job.steps.items():
        if step[0] == "source":
            behind[name] = list(sources.get(name, []))
        else:
            behind[name] = whole_step(step, job.shapes[step[1]], [behind[one] for one in inputs_of(step)])
    return {name: sorted(behind[name], key=record_rank) for name in job.of_class("sink")}


def whole_step(step, inner, told):
    """Return the records behind a step that is no source, of the lists of its inputs' records."""
    if step[0] == "join":
        return told[0] + told[1]
    if step[0] == "meet":
        return whole_meet(told, step[3])
    if step[0] == "total" or step[0] == "session":
        return whole_totals(step, inner, told[0])
    return whole_each(step, inner, told[0])


def whole_each(step, inner, records):
    """Return the records behind an "each", a "key" or a "sink"."""
    if step[0] == "sink":
        return list(records)
    if step[0] == "key":
        return [(key_of(step, inner, row), row, time) for _, row, time in records]
    found = []
    for key, row, time in records:
        fresh = each_row(step, inner, row)
        if fresh is not None:
            found.append((key, fresh, time))
    return found


def by_keys(records):
    """Return a table of keys to the list of (row, time) of some records."""
    found = {}
    for key, row, time in records:
        found.setdefault(key, []).append((row, time))
    return found


def whole_totals(step, inner, records):
    """Return the records of all totals."""
    found = []
    for key, told in by_keys(records).items():
        for span, rows in spans_of(step, [(time, row) for row, time in told]):
            found.append((key, total_row(step, inner, span, rows), span[1] - 1))
    return found


def spans_of(step, rows):
    """Return a list of ((begin, end), list of rows in it) of all spans that have some of (time, row) rows."""
    if step[0] == "total":
        return spans_of_windows(Windows(step[2], step[3]), rows)
    sessions = Sessions(step[2])
    spans = ()
    for when, _ in rows:
        spans = sessions.joined(spans, when)[0]
    return [(span, [row for time, row in rows if span[0] <= time < span[1]]) for span in spans]


def spans_of_windows(windows, rows):
    """Return a list of (window, list of rows in it) of the windows that have some of (time, row) rows."""
    found = {}
    for time, row in rows:
        for span in windows.around(time):
            found.setdefault(span, []).append(row)
    return [(span, found[span]) for span in sorted(found)]


def whole_meet(inner, gap):
    """Return the records of all that meet; inner is a row of the first input's records and the second's."""
    theirs = by_keys(inner[1])
    found = []
    for key, row, time in inner[0]:
        for other, when in theirs.get(key, []):
            if abs(time - when) <= gap:
                found.append((key, row + other, max(time, when)))
    return found


def record_rank(record):
    """Return what a record is ranked by: its time, its key's length, its key's and its row's values.

    Numbers stand ahead of texts.
    """
    key, row, time = record
    return (time, len(key), row_rank(key), row_rank(row))
