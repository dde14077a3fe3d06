"""Scripts: jobs as lines of text."""

from streamstack.errors import JobError, StreamError
from streamstack.jobs import Job
from streamstack.plans import TOTALS
from streamstack.queries import FIGURES, SMALL, parse_term
from streamstack.rows import Shape

MOST_LINES = 60
MOST_FIGURES = 9


def parse_job(text):
    """Return the job of a text; raise JobError for a line that cannot be, with its number from 1 on ahead.

    Lines are "name = source column kind, ..", "name = each of name [where truth] [pick term as column, ..]",
    "name = key of name by column, ..", "name = join of name and name", "name = total of name each n by n : totals",
    "name = session of name within n : totals", "name = meet of name and name within n" and "name = sink of name".
    Totals are "count as name", "sum column as name", "least column as name" and "greatest column as name", parted by
    ",". Empty lines do not count, and "#" begins a remark.
    """
    lines = text.split("\n")
    if len(lines) > MOST_LINES:
        raise JobError(f"{MOST_LINES + 1}: too many lines")
    job = Job()
    for number, line in enumerate(lines, start=1):
        if without_remark(line).strip() != "":
            add_line(job, number, line)
    return job


def add_line(job, number, line):
    """Add the step of a line to a job; raise JobError with the line's number ahead for one that cannot be."""
    try:
        name, step = parse_line(line)
        job.add(name, step)
    except StreamError as fault:
        raise JobError(f"{number}: {str(fault)}") from None


def parse_line(line):
    """Return the name and the step of a line; raise JobError, QueryError or RowError."""
    name, mark, step = without_remark(line).partition("=")
    if mark == "":
        raise JobError("no step")
    return good_name(name.strip()), parse_step(step)


def without_remark(line):
    """Return a line up to its remark."""
    return line[:end_before(line, "#")]


def end_before(text, mark):
    """Return the place of the first mark in a text that stands in no "'", the text's end if there is none."""
    inside = False
    for place, sign in enumerate(text):
        if sign == "'":
            inside = not inside
        elif not inside and text[place:place + len(mark)] == mark:
            return place
    return len(text)


def good_name(text):
    """Return a name of small letters, figures and "_", a letter first; raise JobError for another text."""
    if text == "" or text[0] not in SMALL or any(sign not in SMALL + FIGURES + "_" for sign in text):
        raise JobError("no name")
    return text


def whole_number(text):
    """Return the number of a text of one to nine figures; raise JobError for another one."""
    if not 0 < len(text) <= MOST_FIGURES or any(sign not in FIGURES for sign in text):
        raise JobError("no number")
    return int(text)


def parted(text, mark):
    """Return the two sides of the first mark in a text, without blanks around; raise JobError if it is not there."""
    before, found, behind = text.partition(mark)
    if found == "":
        raise JobError(f"expected {mark.strip()}")
    return (before.strip(), behind.strip())


def first_word(text):
    """Return the first word of a text, "" for none, and what stands behind it, without blanks around."""
    word, _, behind = text.strip().partition(" ")
    return word, behind.strip()


def parse_step(text):
    """Return the step of a text; raise JobError, QueryError or RowError."""
    word, behind = first_word(text)
    if word == "source":
        return ("source", parse_shape(behind))
    of, inner = first_word(behind)
    if of != "of":
        raise JobError("expected of")
    if word == "each":
        return parse_each(inner)
    if word == "key":
        return parse_key(inner)
    if word == "join":
        return ("join",) + parse_two(inner)
    if word == "total":
        return parse_total(inner)
    if word == "session":
        return parse_session(inner)
    if word == "meet":
        return parse_meet(inner)
    if word != "sink":
        raise JobError("no step")
    return ("sink", good_name(inner))


def parse_shape(text):
    """Return the shape of "column kind, .."; raise JobError or RowError."""
    columns = [tuple(column.split()) for column in text.split(",")]
    if any(len(column) != 2 for column in columns):
        raise JobError("no column")
    return Shape([(good_name(name), kind) for name, kind in columns])


def parse_each(text):
    """Return the step of an "each"."""
    # With a blank behind it a "pick" of nothing is found, too.
    end = end_before(text + " ", " pick ")
    columns = None
    if end < len(text):
        columns = tuple([parse_pick(column) for column in text[end + len(" pick"):].split(",")])
    name, behind = first_word(text[:end])
    truth = None
    if behind != "":
        where, told = first_word(behind)
        if where != "where":
            raise JobError("expected where")
        truth = parse_term(told)
    return ("each", good_name(name), truth, columns)


def parse_pick(text):
    """Return the (column, term) of "term as column"; raise JobError or QueryError."""
    # The last one, as a text within the term may have the word in it.
    term, found, name = text.rpartition(" as ")
    if found == "":
        raise JobError("expected as")
    return (good_name(name.strip()), parse_term(term))


def parse_key(text):
    """Return the step of a "key"; raise JobError."""
    name, columns = parted(text, " by ")
    return ("key", good_name(name), tuple([good_name(column.strip()) for column in columns.split(",")]))


def parse_two(text):
    """Return the two names of "name and name"; raise JobError."""
    one, other = parted(text, " and ")
    return (good_name(one), good_name(other))


def parse_total(text):
    """Return the step of a "total"; raise JobError."""
    spans, totals = parted(text, ":")
    name, numbers = parted(spans, " each ")
    length, step = parted(numbers, " by ")
    return ("total", good_name(name), whole_number(length), whole_number(step), parse_totals(totals))


def parse_session(text):
    """Return the step of a "session"; raise JobError."""
    spans, totals = parted(text, ":")
    name, gap = parted(spans, " within ")
    return ("session", good_name(name), whole_number(gap), parse_totals(totals))


def parse_meet(text):
    """Return the step of a "meet"; raise JobError."""
    names, gap = parted(text, " within ")
    return ("meet",) + parse_two(names) + (whole_number(gap),)


def parse_totals(text):
    """Return the (name, total, column) rows of totals."""
    return tuple([total_of_words(total.split()) for total in text.split(",")])


def total_of_words(words):
    """Return the (name, total, column) of one total; raise JobError for words that are none."""
    if len(words) < 3 or words[-2] != "as" or words[0] not in TOTALS:
        raise JobError("no total")
    if len(words) != (3 if words[0] == "count" else 4):
        raise JobError("a total with too few words, or too many")
    column = None if words[0] == "count" else good_name(words[1])
    return (good_name(words[-1]), words[0], column)
