"""Orders: in which order many sources meet, so that as few rows as can be come up in between."""

from streamstack.errors import QueryError
from streamstack.terms import columns_of

MOST_SOURCES = 8


class Guess:
    """How many rows each source has, and of how many (source, column) has different values."""

    def __init__(self, rows, different):
        self.row_counts = dict(rows)
        self.different = {place: different[place] for place in different}
        if any(many < 0 for many in self.row_counts.values()) or any(many < 1 for many in self.different.values()):
            raise QueryError("a number of rows below 0, or of values below 1")

    def values(self, source, column):
        """Return how many different values a column has, as many as rows, one at least, where nothing is told."""
        return self.count_of(source, column)

    def count_of(self, source, column):
        """Return what values returns; the package asks here, since its own calls of values would have to iterate."""
        return self.different.get((source, column), max(1, self.row_counts.get(source, 0)))


def meeting_rows(guess, names, pairs):
    """Return how many rows come of sources that meet: the product of theirs, each pair of columns dividing it.

    A pair ((source, column), (other, column)) of these sources divides by the greater number of different values;
    rounded down at each.
    """
    many = 1
    for name in names:
        many = many * guess.row_counts.get(name, 0)
    for (one, mine), (other, theirs) in pairs:
        if one in names and other in names:
            many = many // max(guess.count_of(one, mine), guess.count_of(other, theirs))
    return many


def cost_of(guess, order, pairs):
    """Return what an order costs: the sum of the rows behind each meeting, from the second source on."""
    return sum(meeting_rows(guess, order[:many], pairs) for many in range(2, len(order) + 1))


def best_order(guess, names, pairs):
    """Return (cost, order) of the cheapest order of sources, of several the least by names; by what was found of fewer.

    Raise QueryError for none, or more than eight.
    """
    if not 0 < len(names) <= MOST_SOURCES:
        raise QueryError("no sources, or too many")
    ordered = sorted(names)
    # A choice of sources is a number whose bits tell the places of the chosen names.
    best = {0: (0, ())}
    for choice in range(1, 1 << len(ordered)):
        places = [place for place in range(len(ordered)) if choice >> place & 1 == 1]
        rows = 0
        if len(places) > 1:
            rows = meeting_rows(guess, [ordered[place] for place in places], pairs)
        found = []
        for place in places:
            cost, order = best[choice - (1 << place)]
            found.append((cost + rows, order + (ordered[place],)))
        best[choice] = min(found)
    return best[(1 << len(ordered)) - 1]


def plan_of(order, pairs):
    """Return the plan in which sources meet in an order, by the pairs of columns.

    A pair stands where its later one does. Pairs stand in their order, each as (column of those before, column of
    the new one).
    """
    plan = ("source", order[0])
    for place in range(1, len(order)):
        plan = ("meet", pairs_with(order[:place], order[place], pairs), plan, ("source", order[place]))
    return plan


def pairs_with(before, fresh, pairs):
    """Return the pairs of columns of sources before and of a new one."""
    found = []
    for (one, mine), (other, theirs) in pairs:
        if one in before and other == fresh:
            found.append((mine, theirs))
        elif other in before and one == fresh:
            found.append((theirs, mine))
    return tuple(found)


def used_columns(terms):
    """Return the columns that some terms read, in order, each once."""
    found = {}
    for term in terms:
        for name in columns_of(term):
            found[name] = True
    return tuple(found)
