"""Views: what a plan gives, kept up to date by changes of its sources alone."""

from streamstack.bags import Bag
from streamstack.plans import bag_over, check_plan, inner_shapes, met, plans_of, values_at


class View:
    """A plan, its sources, a node for it, and the bag that it gives now."""

    def __init__(self, plan, sources):
        check_plan(plan, sources)
        self.plan = plan
        self.sources = sources
        self.node = node_of(plan, sources)
        # No plan gives rows of sources that have none.
        self.bag = Bag()

    def change(self, changes):
        """Take a table of sources' changes into account (bags), and return the change of what the plan gives.

        Sources' rows never come below 0.
        """
        change = self.node.change(changes)
        # A new bag, so that who holds the one before can compare.
        self.bag = self.bag.plus(change)
        return change


class SourceNode:
    """A source: its changes come as they are."""

    def __init__(self, name):
        self.name = name

    def change(self, changes):
        """Return the change of the source."""
        return Bag(changes.get(self.name, Bag()).weighted())


class PlainNode:
    """A plan that gives of a sum of bags the sum of what it gives of each: nothing is kept."""

    def __init__(self, plan, nodes, shapes):
        self.plan = plan
        self.nodes = nodes
        self.shapes = shapes

    def change(self, changes):
        """Return the change of what the plan gives."""
        return bag_over(self.plan, changes_of(self.nodes, changes), self.shapes)


class RowNode:
    """A plan that looks at each row's weights alone: the bags of the plans within it are kept."""

    def __init__(self, plan, nodes, shapes):
        self.plan = plan
        self.nodes = nodes
        self.shapes = shapes
        self.kept = [Bag() for _ in nodes]

    def change(self, changes):
        """Return the change of what the plan gives."""
        told = changes_of(self.nodes, changes)
        touched = {row: True for change in told for row, weight in change.weighted()}
        before = self.given_of(touched)
        for place, change in enumerate(told):
            add_all(self.kept[place], change)
        return self.given_of(touched).minus(before)

    def given_of(self, rows):
        """Return what the plan gives of some rows alone."""
        parts = [Bag([(row, bag.weight(row)) for row in rows]) for bag in self.kept]
        return bag_over(self.plan, parts, self.shapes)


class MeetNode:
    """A meeting: both sides are kept by the values by which they meet."""

    def __init__(self, plan, nodes, shapes):
        self.plan = plan
        self.nodes = nodes
        self.shapes = shapes
        self.mine = Side([shapes[0].place_of(name) for name, _ in plan[1]])
        self.theirs = Side([shapes[1].place_of(name) for _, name in plan[1]])

    def change(self, changes):
        """Return the change of what the plan gives."""
        mine, theirs = changes_of(self.nodes, changes)
        # First what is new of mine meets their rows of before, then what is new of theirs meets all of mine.
        found = self.met_of([mine, self.theirs.part_of(self.mine.values_in(mine))])
        self.mine.take(mine)
        more = self.met_of([self.mine.part_of(self.theirs.values_in(theirs)), theirs])
        self.theirs.take(theirs)
        return found.plus(more)

    def met_of(self, bags):
        """Return the bag of rows of two bags that meet."""
        return met(self.plan[1], bags, self.shapes[0], self.shapes[1])


class GroupNode:
    """Groups: the rows are kept by the names' values, and groups with new rows are reckoned anew."""

    def __init__(self, plan, nodes, shapes):
        self.plan = plan
        self.nodes = nodes
        self.shapes = shapes
        self.side = Side([shapes[0].place_of(name) for name in plan[1]])

    def change(self, changes):
        """Return the change of what the plan gives."""
        told = changes_of(self.nodes, changes)
        touched = self.side.values_in(told[0])
        before = bag_over(self.plan, [self.side.part_of(touched)], self.shapes)
        self.side.take(told[0])
        after = bag_over(self.plan, [self.side.part_of(touched)], self.shapes)
        return after.minus(before)


class Side:
    """Rows with weights, in a table by the values at some places."""

    def __init__(self, places):
        self.places = places
        self.bags = {}

    def values_in(self, bag):
        """Return a table whose keys are the values at the places in a bag's rows."""
        return {values_at(row, self.places): True for row, weight in bag.weighted()}

    def take(self, change):
        """Add the rows of a change; values that no row has any more are gone."""
        for row, weight in change.weighted():
            self.bags.setdefault(values_at(row, self.places), Bag()).add(row, weight)
        for key in self.values_in(change):
            if self.bags[key].weights == {}:
                del self.bags[key]

    def part_of(self, keys):
        """Return the bag of the rows that have some values at the places."""
        found = Bag()
        for key in keys:
            add_all(found, self.bags.get(key, Bag()))
        return found


def add_all(bag, change):
    """Add all rows of a change to a bag."""
    for row, weight in change.weighted():
        bag.add(row, weight)


def changes_of(nodes, changes):
    """Return the list of nodes' changes."""
    found = []
    for node in nodes:
        found.append(node.change(changes))
    return found


def node_of(plan, sources):
    """Return a node that keeps up to date what a plan gives, of sources without rows at first."""
    word = plan[0]
    if word == "source":
        return SourceNode(plan[1])
    nodes = []
    for inner in plans_of(plan):
        nodes.append(node_of(inner, sources))
    shapes = inner_shapes(plan, sources)
    if word == "once" or word == "without":
        return RowNode(plan, nodes, shapes)
    if word == "meet":
        return MeetNode(plan, nodes, shapes)
    if word == "group":
        return GroupNode(plan, nodes, shapes)
    return PlainNode(plan, nodes, shapes)
