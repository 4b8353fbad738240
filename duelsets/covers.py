"""Covering of alternatives: who covers whom, the uncovered set, and certificates of who is in it."""

from duelsets.checks import is_alternative, is_marked, is_one_each
from duelsets.tables import beats, beats_all, wins_of


def is_coverer(table, one, other):
    """Return whether one covers the other alternative."""
    return beats(table, one, other) and beats_all(table, one, wins_of(table, other))


def coverers(table, one):
    """Return the set of the alternatives that cover one."""
    return tuple([other for other in range(len(table)) if is_coverer(table, other, one)])


def uncovered_set(table):
    """Return the set of the alternatives that no other one covers."""
    return tuple([one for one in range(len(table)) if coverers(table, one) == ()])


def uncovered_certificate(table, one):
    """Return middles that show that one is uncovered, or an alternative that covers it."""
    above = coverers(table, one)
    if above == ():
        return ("in", tuple([middle_for(table, one, other) for other in range(len(table))]))
    return ("out", above[0])


def middle_for(table, one, other):
    """Return None, or if one is needed, the first alternative that one beats and that beats the other."""
    if not needs_middle(table, one, other):
        return None
    # The other beats one without covering it, so it loses to some alternative that one beats.
    return [middle for middle in wins_of(table, one) if beats(table, middle, other)][0]


def needs_middle(table, one, other):
    """Return whether one does not reach the other at once."""
    return one != other and not beats(table, one, other)


def uncovered_holds(table, one, value):
    """Return whether any value is a certificate that one is, or is not, uncovered."""
    if is_marked(value, "in"):
        return middles_hold(table, one, value[1])
    if is_marked(value, "out"):
        return is_alternative(table, value[1]) and is_coverer(table, value[1], one)
    return False


def middles_hold(table, one, value):
    """Return whether any value is middles through which one reaches each alternative that beats it."""
    if not is_one_each(table, value):
        return False
    return all([is_middle(table, one, middle, other) for other, middle in enumerate(value)])


def is_middle(table, one, value, other):
    """Return whether any value is right between one and the other: None exactly if none is needed."""
    if not needs_middle(table, one, other):
        return value is None
    return is_alternative(table, value) and beats(table, one, value) and beats(table, value, other)
