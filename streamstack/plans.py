"""Plans: what a query does with bags of rows, and what each plan gives of whole bags."""

from streamstack.bags import Bag, value_rank
from streamstack.errors import QueryError, RowError
from streamstack.rows import Shape
from streamstack.terms import kind_of_column, kind_of_term, value_of

TOTALS = ("count", "sum", "least", "greatest")
MOST_PLANS = 60
# How many plans stand at the end of a plan of each word.
INNER = {"source": 0, "where": 1, "pick": 1, "both": 2, "without": 2, "once": 1, "meet": 2, "group": 1}


class Sources:
    """Shapes by the names of what comes in."""

    def __init__(self, shapes):
        self.shapes = dict(shapes)


def shape_of(plan, sources):
    """Return the shape of a plan's rows; raise QueryError for a plan that cannot be.

    Plans are ("source", name), ("where", truth, plan), ("pick", ((name, term), ..), plan), ("both", plan, plan),
    ("without", plan, plan), ("once", plan), ("meet", ((name, name), ..), plan, plan) for rows whose named columns
    are equal, all columns of both, and ("group", (names), ((name, total, column or None), ..), plan).
    """
    return shape_over(plan, inner_shapes(plan, sources), sources)


def inner_shapes(plan, sources):
    """Return the list of the shapes of the plans within a plan."""
    found = []
    for inner in plans_of(plan):
        found.append(shape_of(inner, sources))
    return found


def shape_over(plan, shapes, sources):
    """Return the shape of a plan's rows, by the shapes of the plans within it."""
    word = plan[0]
    if word == "source":
        return shape_of_source(plan[1], sources)
    if word == "where":
        return shape_of_where(plan[1], shapes[0])
    if word == "pick":
        return shape_of_pick(plan[1], shapes[0])
    if word == "both" or word == "without":
        return shape_of_two(shapes[0], shapes[1])
    if word == "once":
        return shapes[0]
    if word == "meet":
        return shape_of_meeting(plan[1], shapes[0], shapes[1])
    if word == "group":
        return shape_of_group(plan[1], plan[2], shapes[0])
    raise QueryError(f"no plan {word}")


def shape_of_source(name, sources):
    """Return the shape of a source; raise QueryError for an unknown one."""
    if name not in sources.shapes:
        raise QueryError(f"no source {name}")
    return sources.shapes[name]


def shape_of_where(truth, shape):
    """Return the shape of the rows for which a truth holds; raise QueryError for another term."""
    if kind_of_term(truth, shape) != "truth":
        raise QueryError("where tells no truth")
    return shape


def shape_of_pick(columns, shape):
    """Return the shape of picked columns; raise QueryError for none, and for a truth."""
    kinds = [(name, kind_of_term(term, shape)) for name, term in columns]
    if any(kind == "truth" for name, kind in kinds) or kinds == []:
        raise QueryError("no column can be picked so")
    return made_shape(kinds)


def shape_of_two(one, other):
    """Return the first of two shapes; raise QueryError if the other one has other kinds."""
    if one.kinds() != other.kinds():
        raise QueryError("the columns of two plans do not fit")
    return one


def shape_of_meeting(pairs, one, other):
    """Return the shape of the rows of two plans that meet; raise QueryError for pairs that do not fit."""
    for mine, theirs in pairs:
        if kind_of_column(mine, one) != kind_of_column(theirs, other):
            raise QueryError(f"{mine} and {theirs} cannot be equal")
    return made_shape(one.columns + other.columns)


def shape_of_group(names, totals, shape):
    """Return the shape of groups; raise QueryError for totals that cannot be, and for neither names nor totals."""
    if len(names) + len(totals) == 0:
        raise QueryError("a group has names or totals")
    columns = [(name, kind_of_column(name, shape)) for name in names]
    for name, word, column in totals:
        columns.append((name, kind_of_total(word, column, shape)))
    return made_shape(columns)


def kind_of_total(word, column, shape):
    """Return the kind of a total of a column, None for no column; raise QueryError for one that cannot be."""
    if word not in TOTALS or (word == "count") != (column is None):
        raise QueryError("no such total")
    if word == "count":
        return "int"
    kind = kind_of_column(column, shape)
    if word == "sum" and kind != "int":
        raise QueryError("texts have no sum")
    return kind


def made_shape(columns):
    """Return a shape; raise QueryError for columns that cannot be."""
    try:
        return Shape(columns)
    except RowError:
        raise QueryError("the columns cannot be") from None


def check_plan(plan, sources):
    """Return a plan's shape; raise QueryError for one that cannot be, or of more than sixty parts."""
    if count_plans(plan) > MOST_PLANS:
        raise QueryError("the plan has too many parts")
    return shape_of(plan, sources)


def count_plans(plan):
    """Return how many parts a plan has."""
    many = 1
    for inner in plans_of(plan):
        many += count_plans(inner)
    return many


def plans_of(plan):
    """Return the plans within a plan, in order."""
    return plan[len(plan) - INNER.get(plan[0], 0):]


def given(plan, bags, sources):
    """Return the bag that a plan gives of a table of sources' bags.

    Rows of "where" and "pick" keep their weights, equal ones added; "both" adds, "without" takes away, but no row
    comes below 0; "once" takes each row once; meeting rows multiply weights; groups are of the rows with weights
    above 0, each counting as often, and a group without rows is none (also of no names).
    """
    bag, _ = bag_and_shape(plan, bags, sources)
    return bag


def bag_and_shape(plan, bags, sources):
    """Return the bag that a plan gives, and its shape."""
    inner = []
    shapes = []
    for one in plans_of(plan):
        bag, shape = bag_and_shape(one, bags, sources)
        inner.append(bag)
        shapes.append(shape)
    shape = shape_over(plan, shapes, sources)
    if plan[0] == "source":
        # A copy: who holds the answer must not hold the source.
        return Bag(bags.get(plan[1], Bag()).weighted()), shape
    return bag_over(plan, inner, shapes), shape


def bag_over(plan, bags, shapes):
    """Return the bag that a plan gives of the bags of the plans within it, which have some shapes."""
    word = plan[0]
    if word == "where":
        return bag_where(plan[1], bags[0], shapes[0])
    if word == "pick":
        return bag_of_pick(plan[1], bags[0], shapes[0])
    if word == "both":
        return bags[0].plus(bags[1])
    if word == "without":
        return lessened(bags[0], bags[1])
    if word == "once":
        return bags[0].once()
    if word == "meet":
        return met(plan[1], bags, shapes[0], shapes[1])
    return grouped(plan, bags[0], shapes[0])


def bag_where(truth, bag, shape):
    """Return the bag of the rows for which a truth holds."""
    return Bag([(row, weight) for row, weight in bag.weighted() if value_of(truth, row, shape)])


def bag_of_pick(columns, bag, shape):
    """Return the bag of the rows of picked columns."""
    return Bag([(picked(columns, row, shape), weight) for row, weight in bag.weighted()])


def lessened(bag, other):
    """Return a bag less another one, without rows below 0."""
    return Bag([(row, weight) for row, weight in bag.minus(other).weighted() if weight > 0])


def picked(columns, row, shape):
    """Return the row of terms' values."""
    return tuple([value_of(term, row, shape) for name, term in columns])


def met(pairs, bags, one, other):
    """Return the bag of rows of two bags, handed in as a list, that meet; the shapes are theirs."""
    mine = [one.place_of(name) for name, _ in pairs]
    theirs = [other.place_of(name) for _, name in pairs]
    table = rows_by_values(bags[1], theirs)
    found = []
    for row, weight in bags[0].weighted():
        for match, times in table.get(values_at(row, mine), ()):
            found.append((row + match, weight * times))
    return Bag(found)


def values_at(row, places):
    """Return the row of the values at some places."""
    return tuple([row[place] for place in places])


def rows_by_values(bag, places):
    """Return a table of the values at some places to the list of (row, weight) that have them."""
    found = {}
    for row, weight in bag.weighted():
        found.setdefault(values_at(row, places), []).append((row, weight))
    return found


def grouped(plan, bag, shape):
    """Return the bag of groups."""
    places = [shape.place_of(name) for name in plan[1]]
    present = Bag([(row, weight) for row, weight in bag.weighted() if weight > 0])
    groups = rows_by_values(present, places)
    return Bag([(key + totals_of(plan[2], rows, shape), 1) for key, rows in groups.items()])


def totals_of(totals, rows, shape):
    """Return the totals of (row, weight) rows."""
    return tuple([total_of(word, column, rows, shape) for name, word, column in totals])


def total_of(word, column, rows, shape):
    """Return one total of (row, weight) rows."""
    if word == "count":
        return sum(weight for row, weight in rows)
    place = shape.place_of(column)
    if word == "sum":
        return sum(row[place] * weight for row, weight in rows)
    found = [row[place] for row, weight in rows]
    return min(found, key=value_rank) if word == "least" else max(found, key=value_rank)
