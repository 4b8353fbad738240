"""Sequences, in which alternatives duel one after another, and careful sequences, which build full chains."""

from duelsets.checks import is_alternative, is_one_each, require_alternative
from duelsets.errors import NoOrder, NoTop
from duelsets.tables import all_sets, beats, beats_all, wins_of
from duelsets.tops import top_set


def is_order(table, value):
    """Return whether any value contains each alternative once."""
    if not is_one_each(table, value) or not all([is_alternative(table, one) for one in value]):
        return False
    return sorted(value) == list(range(len(table)))


def require_order(table, value):
    """Raise NoOrder unless the value is an order."""
    if not is_order(table, value):
        raise NoOrder()


def sequence_winner(table, order):
    """Return the winner of the sequence of an order."""
    require_order(table, order)
    winner = order[0]
    for one in order[1:]:
        if beats(table, one, winner):
            winner = one
    return winner


def careful_winner(table, order):
    """Return the winner of the careful sequence of an order."""
    require_order(table, order)
    taken = []
    for one in reversed(order):
        if beats_all(table, one, taken):
            taken.append(one)
    return taken[-1]


def sequence_for(table, one):
    """Return an order whose sequence one wins."""
    require_alternative(table, one)
    if one not in top_set(table):
        raise NoTop(one)
    order = []
    add_after_wins(table, one, [], order)
    return tuple(order)


def add_after_wins(table, one, met, order):
    """Put at the end of the order all that are reached from one and not met before, and then one itself.

    Each alternative then beats the one before it in the order: if it lost to that one, it would have been met
    from there at the latest, and so it would stand before it.
    """
    met.append(one)
    for other in wins_of(table, one):
        if other not in met:
            add_after_wins(table, other, met, order)
    order.append(one)


def sequence_counts(table):
    """Return the number of orders whose sequence each alternative wins."""
    counts = {}
    # The orders of a set are those of its sets with one alternative fewer, each followed by that one.
    for members in sorted(all_sets(table), key=len):
        if len(members) > 0:
            counts[members] = counts_within(table, members, counts)
    return counts[tuple(range(len(table)))]


def counts_within(table, members, smaller):
    """Return the number of orders of the members whose sequence each alternative wins."""
    found = [0] * len(table)
    if len(members) == 1:
        found[members[0]] = 1
        return tuple(found)
    for at, last in enumerate(members):
        for winner, many in enumerate(smaller[members[:at] + members[at + 1:]]):
            found[last if beats(table, last, winner) else winner] += many
    return tuple(found)


def careful_counts(table):
    """Return the number of orders whose careful sequence each alternative wins."""
    counts = [0] * len(table)
    waiting = [(tuple(range(len(table))), number_of_orders(len(table)))]
    while waiting:
        able, many = waiting.pop()
        # Of those that beat all that were taken so far, each one is taken next in equally many orders.
        many_each = many // len(able)
        for one in able:
            still_able = tuple([other for other in able if beats(table, other, one)])
            if len(still_able) == 0:
                counts[one] += many_each
            else:
                waiting.append((still_able, many_each))
    return tuple(counts)


def number_of_orders(size):
    """Return the number of orders of this many alternatives."""
    product = 1
    for factor in range(2, size + 1):
        product *= factor
    return product
