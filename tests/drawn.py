"""Jobs and records that are drawn by chance, for tests over many of them."""

from streamstack.errors import JobError
from streamstack.jobs import Job
from streamstack.rows import Shape

SHAPES = {"s": Shape((("a", "int"), ("t", "text"))), "r": Shape((("b", "int"), ("u", "text")))}
WORDS = ("", "x", "yy", "north")
CLASSES = ("each", "key", "join", "total", "session", "meet")


def columns_of_kind(shape, kind):
    return [name for name, one in shape.columns if one == kind]


def draw_term(chance, shape, kind, depth=2):
    """Return a term of a kind over the columns of a shape."""
    names = columns_of_kind(shape, kind)
    if depth > 0 and chance.random() < 0.4:
        if kind == "int" and chance.random() < 0.3:
            return ("length", draw_term(chance, shape, "text", depth - 1))
        parts = (draw_term(chance, shape, kind, depth - 1), draw_term(chance, shape, kind, depth - 1))
        if chance.random() < 0.3:
            return ("if", draw_truth(chance, shape, depth - 1)) + parts
        return ("sum", chance.choice("+-*/")) + parts if kind == "int" else ("join",) + parts
    if names and chance.random() < 0.8:
        return ("column", chance.choice(names))
    return ("int", chance.randrange(-2, 9)) if kind == "int" else ("text", chance.choice(WORDS))


def draw_truth(chance, shape, depth=2):
    if depth > 0 and chance.random() < 0.3:
        return ("link", chance.choice(("and", "or")), draw_truth(chance, shape, depth - 1),
                draw_truth(chance, shape, depth - 1))
    kind = chance.choice(("int", "text"))
    sign = chance.choice(("<>", ">=", "<", "<>"))
    return ("test", sign, draw_term(chance, shape, kind, 1), draw_term(chance, shape, kind, 1))


def draw_totals(chance, shape, mark):
    totals = [(f"n{mark}", "count", None)]
    for name, kind in shape.columns:
        word = chance.choice(("sum", "least", "greatest") if kind == "int" else ("least", "greatest"))
        if len(totals) < 4:
            totals.append((f"{word[0]}{mark}_{len(totals)}", word, name))
    return tuple(totals)


def draw_step(chance, job, word, mark):
    """Return a step of a class that reads steps of a job; its columns have names with a mark."""
    names = [name for name, step in job.steps.items() if step[0] != "sink"]
    one, other = chance.choice(names), chance.choice(names)
    shape = job.shapes[one]
    if word == "each":
        truth = draw_truth(chance, shape) if chance.random() < 0.6 else None
        picked = None
        if chance.random() < 0.6:
            kinds = [chance.choice(("int", "text")) for _ in range(chance.randrange(1, 4))]
            picked = tuple((f"c{mark}_{n}", draw_term(chance, shape, kind)) for n, kind in enumerate(kinds))
        return ("each", one, truth, picked)
    if word == "key":
        return ("key", one, tuple(chance.choice(shape.columns)[0] for _ in range(chance.randrange(0, 3))))
    if word == "join":
        return ("join", one, other)
    if word == "total":
        step = chance.randrange(1, 8)
        return ("total", one, step + chance.randrange(0, 9), step, draw_totals(chance, shape, mark))
    if word == "session":
        return ("session", one, chance.randrange(1, 7), draw_totals(chance, shape, mark))
    return ("meet", one, other, chance.randrange(0, 6))


def draw_job(chance, many=7, classes=CLASSES, sinks=2):
    """Return a job of two sources, so many steps at most, and sinks, with at least one of them."""
    job = Job()
    for name, shape in SHAPES.items():
        job.add(name, ("source", shape))
    for mark in range(many):
        try:
            job.add(f"x{mark}", draw_step(chance, job, chance.choice(classes), mark))
        except JobError:
            continue
    names = list(job.steps)
    job.add("out0", ("sink", names[-1]))
    for mark in range(1, sinks):
        job.add(f"out{mark}", ("sink", chance.choice(names)))
    return job


def draw_records(chance, many, late=0, parts=1):
    """Return so many records whose times are late by at most so much in each of some parts, as a log deals them."""
    found = []
    top = 0
    for _ in range(many):
        top += chance.choice((0, 0, 1, 1, 2, 5))
        found.append(((chance.choice(("k", "l", 3)),), (chance.randrange(-3, 9), chance.choice(WORDS)),
                      max(0, top - chance.randrange(late + 1))))
    return found
