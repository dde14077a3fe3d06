"""Terms: what is reckoned of a row: columns, numbers, texts, sums, comparisons and truths."""

from streamstack.errors import QueryError, RowError

SUMS = ("+", "-", "*", "/")
TESTS = ("=", "<>", "<", "<=", ">", ">=")
LINKS = ("and", "or")
# How many terms stand at the end of a term of each word.
INNER = {"sum": 2, "test": 2, "link": 2, "not": 1, "length": 1, "join": 2, "if": 3}
HALF = 9223372036854775808


def kind_of_term(term, shape):
    """Return "int", "text" or "truth" of a term over rows of a shape; raise QueryError if its parts do not fit.

    Terms are ("column", name), ("int", number), ("text", text), ("sum", sign, term, term),
    ("test", sign, term, term), ("link", word, term, term), ("not", term), ("length", term),
    ("join", term, term) of texts, and ("if", truth, term, term).
    """
    word = term[0]
    if word == "column":
        return kind_of_column(term[1], shape)
    if word == "int" or word == "text":
        return word
    kinds = []
    for part in parts_of(term):
        kinds.append(kind_of_term(part, shape))
    kind = kind_of_parts(term, kinds)
    if kind is None:
        raise QueryError("the kinds do not fit")
    return kind


def kind_of_column(name, shape):
    """Return the kind of a column; raise QueryError for an unknown one."""
    try:
        place = shape.place_of(name)
    except RowError:
        raise QueryError(f"no column {name}") from None
    return shape.columns[place][1]


def kind_of_parts(term, kinds):
    """Return the kind of a term whose parts have some kinds, None if they do not fit."""
    word = term[0]
    if word == "sum" and term[1] in SUMS and kinds == ["int", "int"]:
        return "int"
    if word == "test" and term[1] in TESTS and kinds[0] == kinds[1] != "truth":
        return "truth"
    if word == "link" and term[1] in LINKS and kinds == ["truth", "truth"]:
        return "truth"
    if word == "not" and kinds == ["truth"]:
        return "truth"
    if word == "length" and kinds == ["text"]:
        return "int"
    if word == "join" and kinds == ["text", "text"]:
        return "text"
    if word == "if" and kinds[0] == "truth" and kinds[1] == kinds[2]:
        return kinds[1]
    return None


def parts_of(term):
    """Return the terms within a term, in order."""
    return term[len(term) - INNER.get(term[0], 0):]


def columns_of(term):
    """Return the names of columns in a term, each once, in order."""
    found = {}
    note_columns(term, found)
    return tuple(found)


def note_columns(term, found):
    """Note the names of columns in a term as the keys of a table."""
    if term[0] == "column":
        found[term[1]] = True
    for part in parts_of(term):
        note_columns(part, found)


def renamed_term(term, names):
    """Return a term with other names for columns, by a table."""
    if term[0] == "column":
        return ("column", names.get(term[1], term[1]))
    parts = parts_of(term)
    fresh = list(term[:len(term) - len(parts)])
    for part in parts:
        fresh.append(renamed_term(part, names))
    return tuple(fresh)


def value_of(term, row, shape):
    """Return a term's value of a row; sums beyond 64 bits wrap, and what is parted by 0 is 0. Parting rounds down."""
    word = term[0]
    if word == "column":
        return row[shape.place_of(term[1])]
    if word == "int" or word == "text":
        return term[1]
    if word == "if":
        chosen = 2 if value_of(term[1], row, shape) else 3
        return value_of(term[chosen], row, shape)
    found = []
    for part in parts_of(term):
        found.append(value_of(part, row, shape))
    return value_of_parts(term, found)


def value_of_parts(term, found):
    """Return a term's value, of the values that its parts have."""
    word = term[0]
    if word == "sum":
        return summed(term[1], found[0], found[1])
    if word == "test":
        return tested(term[1], found[0], found[1])
    if word == "link":
        return found[0] and found[1] if term[1] == "and" else found[0] or found[1]
    if word == "not":
        return not found[0]
    if word == "length":
        return len(found[0])
    return found[0] + found[1]


def summed(sign, one, other):
    """Return a sum, a difference, a product or a part, within 64 bits."""
    if sign == "+":
        return wrapped(one + other)
    if sign == "-":
        return wrapped(one - other)
    if sign == "*":
        return wrapped(one * other)
    return 0 if other == 0 else wrapped(one // other)


def wrapped(number):
    """Return a number within 64 bits with a sign."""
    return (number + HALF) % (2 * HALF) - HALF


def tested(sign, one, other):
    """Return whether a comparison holds; texts are compared by their characters' numbers."""
    if sign == "=":
        return one == other
    if sign == "<>":
        return one != other
    if sign == "<":
        return one < other
    if sign == "<=":
        return one <= other
    if sign == ">":
        return one > other
    return one >= other
