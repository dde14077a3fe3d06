"""Moves: plans that give the same, with less to do."""

from streamstack.plans import MOST_PLANS, count_plans, plans_of, shape_of
from streamstack.terms import columns_of, renamed_term


def improved(plan, sources):
    """Return a plan that gives the same: truths stand as near to the sources as they can, what is done twice once.

    It is made by the moves of moved until none fits, or more than sixty parts would come of it.
    """
    now = plan
    fresh = moved(now, sources)
    while fresh != now and count_plans(fresh) <= MOST_PLANS:
        now = fresh
        fresh = moved(now, sources)
    return now


def moved(plan, sources):
    """Return a plan with each move that fits made once, from within.

    A "where" goes into a "where" behind "and", ahead of "once", into both sides of "both", into the side of a meeting
    that has all its columns, and ahead of a "pick" of columns; a "once" of a "once", or of a group, is that.
    """
    # Within a pick a truth of a column that is not picked could come to be a valid one.
    shape_of(plan, sources)
    return moved_within(plan, sources)


def moved_within(plan, sources):
    """Return a plan that can be with each move that fits made once, from within."""
    inner = plans_of(plan)
    fresh = list(plan[:len(plan) - len(inner)])
    for one in inner:
        fresh.append(moved_within(one, sources))
    if fresh[0] == "where":
        return moved_where(fresh[1], fresh[2], sources)
    if fresh[0] == "once" and fresh[1][0] in ("once", "group"):
        return fresh[1]
    return tuple(fresh)


def moved_where(truth, inner, sources):
    """Return the plan of a "where" over another plan, moved once if that fits."""
    word = inner[0]
    if word == "where":
        return ("where", ("link", "and", inner[1], truth), inner[2])
    if word == "once":
        return ("once", ("where", truth, inner[1]))
    if word == "both" or word == "without":
        return where_in_two(truth, inner, sources)
    if word == "pick" and all(term[0] == "column" for _, term in inner[1]):
        names = {name: term[1] for name, term in inner[1]}
        return ("pick", inner[1], ("where", renamed_term(truth, names), inner[2]))
    if word == "meet":
        return where_in_meeting(truth, inner, sources)
    return ("where", truth, inner)


def where_in_two(truth, inner, sources):
    """Return the plan of a "both" or a "without" with a truth in both sides, names by places."""
    mine = shape_of(inner[1], sources).columns
    theirs = shape_of(inner[2], sources).columns
    names = {one[0]: other[0] for one, other in zip(mine, theirs)}
    return (inner[0], ("where", truth, inner[1]), ("where", renamed_term(truth, names), inner[2]))


def where_in_meeting(truth, inner, sources):
    """Return the plan of a meeting with each truth in the first side that has all its columns, the others over it."""
    sides = (shape_of(inner[2], sources).places, shape_of(inner[3], sources).places)
    parts = ([], [], [])
    for one in all_of(truth):
        parts[side_of(one, sides)].append(one)
    if parts[0] == [] and parts[1] == []:
        return ("where", truth, inner)
    return where_all(parts[2], ("meet", inner[1], where_all(parts[0], inner[2]), where_all(parts[1], inner[3])))


def side_of(truth, sides):
    """Return which of two sides, each a table of names, is the first that has all columns of a truth, 2 for none."""
    for number, names in enumerate(sides):
        if all(name in names for name in columns_of(truth)):
            return number
    return 2


def where_all(truths, plan):
    """Return the plan of a "where" with some truths behind "and", the plan alone for none."""
    if truths == []:
        return plan
    whole = truths[0]
    for truth in truths[1:]:
        whole = ("link", "and", whole, truth)
    return ("where", whole, plan)


def all_of(truth):
    """Return the truths that stand behind "and" in a truth, in order."""
    if truth[:2] == ("link", "and"):
        return all_of(truth[2]) + all_of(truth[3])
    return (truth,)
