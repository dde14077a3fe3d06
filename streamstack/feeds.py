"""Feeds: views that others keep up to date, by changes that have numbers, also when some were lost or came twice."""

from streamstack.bags import Bag
from streamstack.errors import QueryError

MOST_KEPT = 20


class Feed:
    """A view, the number of its last change, and the last twenty changes by number.

    What the view has at first, if anything, is the first change.
    """

    def __init__(self, view):
        self.view = view
        self.number = 0
        self.changes = {}
        self.note(Bag(view.bag.weighted()))

    def change(self, changes):
        """Take sources' changes into account; what changes the view is a change of the feed, the next one."""
        self.note(self.view.change(changes))

    def note(self, change):
        """Give a change of the view the next number, if it is one."""
        if change.weights == {}:
            return
        self.number += 1
        self.changes[self.number] = change
        if len(self.changes) > MOST_KEPT:
            del self.changes[self.number - MOST_KEPT]

    def ask(self, number):
        """Return what one who has come to a number lacks: ("changes", number, last, rows) or ("whole", last, rows).

        The former tells all (row, weight) since together, if they are kept, the latter the view's whole; rows stand
        ascending. Raise QueryError for a number that is yet to come, or below 0.
        """
        if not 0 <= number <= self.number:
            raise QueryError("no such number")
        if number + MOST_KEPT < self.number:
            return ("whole", self.number, self.view.bag.rows())
        total = Bag()
        for later in range(number + 1, self.number + 1):
            total = total.plus(self.changes[later])
        return ("changes", number, self.number, total.rows())


class Follower:
    """The number that one has come to, and the bag."""

    def __init__(self):
        self.number = 0
        self.bag = Bag()

    def take(self, told):
        """Take what was told, in whatever order, also twice; return whether it was of use."""
        if told[0] == "whole":
            _, last, rows = told
            bag = Bag(rows)
        else:
            _, number, last, rows = told
            # Changes since another number than the follower's would count some twice, or leave some out.
            if number != self.number:
                return False
            bag = self.bag.plus(Bag(rows))
        if last <= self.number:
            return False
        self.number = last
        self.bag = bag
        return True
