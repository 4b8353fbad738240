"""Dominant sets: the top set, the layers, and certificates of who is in the top set."""

from duelsets.checks import is_alternative, is_marked, is_one_each, is_set
from duelsets.tables import beats, beats_all, outsiders, scores, wins_of


def layers(table):
    """Return the tuple of the layers, the top set first."""
    found = []
    above = ()
    for members in dominant_sets(table):
        found.append(tuple([one for one in members if one not in above]))
        above = members
    return tuple(found)


def dominant_sets(table):
    """Return the tuple of all dominant sets, smaller ones first."""
    counts = scores(table)
    found = []
    for left in reversed(range(len(table))):
        # Members of a dominant set beat all that are left outside, and these beat fewer: only some of each other.
        # So at most one dominant set leaves this many, and the scores tell which one it can be.
        members = tuple([one for one, wins in enumerate(counts) if wins >= left])
        if len(members) + left == len(table) and is_dominant(table, members):
            found.append(members)
    return tuple(found)


def is_dominant(table, members):
    """Return whether a set that is not empty is dominant."""
    others = outsiders(table, members)
    return all([beats_all(table, one, others) for one in members])


def top_set(table):
    """Return the smallest dominant set."""
    return dominant_sets(table)[0]


def top_certificate(table, one):
    """Return steps that show that one is in the top set, or a dominant set that shows that it is not."""
    best = top_set(table)
    if one in best:
        return ("in", steps_from(table, one))
    return ("out", best)


def steps_from(table, one):
    """Return None for one, and for each other alternative the one from which it is first reached."""
    steps = [None] * len(table)
    waiting = [one]
    while waiting:
        at = waiting.pop(0)
        for other in wins_of(table, at):
            if other != one and steps[other] is None:
                steps[other] = at
                waiting.append(other)
    return tuple(steps)


def top_holds(table, one, value):
    """Return whether any value is a certificate that one is, or is not, in the top set."""
    if is_marked(value, "in"):
        return steps_hold(table, one, value[1])
    if is_marked(value, "out"):
        return leaves_out(table, one, value[1])
    return False


def steps_hold(table, one, value):
    """Return whether any value is steps that lead back from each alternative to one."""
    if not is_one_each(table, value) or value[one] is not None:
        return False
    for other in outsiders(table, (one,)):
        if not is_alternative(table, value[other]) or not beats(table, value[other], other):
            return False
    return all([leads_back(value, other, one) for other in range(len(table))])


def leads_back(steps, start, goal):
    """Return whether the goal is reached from the start; each other alternative has a step."""
    at = start
    # A way without a circle visits each alternative at most once.
    for visited in range(len(steps)):
        if at == goal:
            return True
        at = steps[at]
    return False


def leaves_out(table, one, value):
    """Return whether any value is a dominant set without one."""
    return is_set(table, value) and len(value) > 0 and one not in value and is_dominant(table, value)
