"""Job moves: jobs that give the same with fewer steps."""

from streamstack.jobs import Job, inputs_of
from streamstack.orders import used_columns
from streamstack.terms import parts_of

MOST_TERM_PARTS = 200


def put_columns(term, columns):
    """Return a term with terms in the places of columns, by a table."""
    if term[0] == "column":
        return columns.get(term[1], term)
    parts = parts_of(term)
    fresh = list(term[:len(term) - len(parts)])
    for part in parts:
        fresh.append(put_columns(part, columns))
    return tuple(fresh)


def count_parts(term):
    """Return how many parts a term has."""
    many = 1
    for part in parts_of(term):
        many += count_parts(part)
    return many


def used_steps(job):
    """Return the names of steps that some sink hangs on, and all sources, in order."""
    used = {}
    # Who reads a step stands behind it.
    for name in reversed(list(job.steps)):
        step = job.steps[name]
        if name in used or step[0] in ("sink", "source"):
            used[name] = True
            for one in inputs_of(step):
                used[one] = True
    return [name for name in job.steps if name in used]


def one_each(job, name):
    """Return the step of an "each" over an "each" that nothing else reads, as one; None if it cannot be.

    The truth of the later one stands behind "and" of the first one's, with its terms in the columns' places.
    """
    step = job.steps[name]
    first = first_alone(job, step, "each")
    if first is None:
        return None
    columns = {} if first[3] is None else {column: term for column, term in first[3]}
    fresh = ("each", first[1], joined_truth(first[2], step[2], columns), joined_picks(first[3], step[3], columns))
    if any(count_parts(term) > MOST_TERM_PARTS for term in terms_of_each(fresh)):
        return None
    return fresh


def first_alone(job, step, word):
    """Return the step of a class that an "each" reads, if nothing else reads it; None for others."""
    if step[0] != "each" or job.steps[step[1]][0] != word or len(job.readers(step[1])) > 1:
        return None
    return job.steps[step[1]]


def joined_truth(first, later, columns):
    """Return the truth of two eaches, each truth or None; the later one's columns stand in a table."""
    if later is None:
        return first
    fresh = put_columns(later, columns)
    return fresh if first is None else ("link", "and", first, fresh)


def joined_picks(first, later, columns):
    """Return what two eaches pick, each columns or None; the later one's columns stand in a table."""
    if later is None:
        return first
    return tuple([(name, put_columns(term, columns)) for name, term in later])


def terms_of_each(step):
    """Return the list of the terms of an "each": its truth, then what it picks."""
    truths = [] if step[2] is None else [step[2]]
    return truths + [term for _, term in step[3] or ()]


def swapped(job, name):
    """Return the steps of a "key" behind an "each" without picked columns, exchanged; None if they are not so.

    They are (the step in the place of the "key", that in the place of the "each"): the truth goes ahead.
    """
    step = job.steps[name]
    first = first_alone(job, step, "key")
    if first is None or step[3] is not None:
        return None
    return (("each", first[1], step[2], None), ("key", step[1], first[2]))


def fewer_steps(job):
    """Return a job of the same sinks that gives the same.

    Unused steps go, eaches become one, truths go ahead of keys. It is made until nothing changes.
    """
    now = job
    fresh = moved_job(now)
    while fresh.steps != now.steps:
        now = fresh
        fresh = moved_job(now)
    return now


def moved_job(job):
    """Return a job with the first change that can be made, or the same."""
    used = used_steps(job)
    # Steps that nothing hangs on go first: who reads a step only for them stands in no change's way.
    if len(used) < len(job.steps):
        return job_of([(name, job.steps[name]) for name in used])
    for name, step in job.steps.items():
        one = one_each(job, name)
        if one is not None:
            return job_with(job, {name: one, step[1]: None})
        pair = swapped(job, name)
        if pair is not None:
            return job_with(job, {step[1]: pair[0], name: pair[1]})
    return job


def job_with(job, fresh):
    """Return a job with other steps in some places, by a table; None for steps that are gone."""
    steps = [(name, fresh.get(name, step)) for name, step in job.steps.items()]
    return job_of([(name, step) for name, step in steps if step is not None])


def job_of(steps):
    """Return the job of (name, step) rows."""
    job = Job()
    for name, step in steps:
        job.add(name, step)
    return job


def terms_use(job, name):
    """Return the columns that an "each" reads, in order."""
    return used_columns(terms_of_each(job.steps[name]))
