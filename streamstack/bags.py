"""Bags: rows with weights, which are added and taken away; a change is a bag, too."""

from streamstack.errors import RowError


class Bag:
    """A table of rows to weights, none of which is 0."""

    def __init__(self, rows=()):
        self.weights = {}
        for row, weight in rows:
            self.add(row, weight)

    def add(self, row, weight=1):
        """Add a weight to a row's."""
        total = self.weights.get(row, 0) + weight
        if total != 0:
            self.weights[row] = total
        elif row in self.weights:
            del self.weights[row]

    def weight(self, row):
        """Return a row's weight, 0 for none."""
        return self.weights.get(row, 0)

    def rows(self):
        """Return (row, weight), ascending by rows as row_rank tells."""
        return tuple(sorted(self.weights.items(), key=lambda pair: row_rank(pair[0])))

    def weighted(self):
        """Return the list of (row, weight) as they stand in the table, for those who need no order."""
        return list(self.weights.items())

    def plus(self, other):
        """Return the sum of two bags."""
        return Bag(self.weighted() + other.weighted())

    def times(self, number):
        """Return the bag with all weights times a number."""
        return Bag([(row, weight * number) for row, weight in self.weighted()])

    def minus(self, other):
        """Return the difference of two bags."""
        return self.plus(other.times(-1))

    def once(self):
        """Return the bag of the rows with weights above 0, once each."""
        return Bag([(row, 1) for row, weight in self.weighted() if weight > 0])

    def is_set(self):
        """Return True if all weights are above 0."""
        return all(weight > 0 for weight in self.weights.values())

    def spread(self):
        """Return the rows, each as often as its weight tells, ascending; raise RowError for a weight below 0."""
        if not self.is_set():
            raise RowError("a row with a weight below 0")
        return tuple([row for row, weight in self.rows() for _ in range(weight)])


def value_rank(value):
    """Return what a value is ranked by: numbers, then texts."""
    return (1 if isinstance(value, str) else 0, value)


def row_rank(row):
    """Return what a row is ranked by."""
    return tuple([value_rank(value) for value in row])


def same_bags(one, other):
    """Return True if two bags have the same rows with the same weights."""
    return one.weights == other.weights
