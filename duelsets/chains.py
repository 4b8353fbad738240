"""Chains of alternatives, in which each one beats all later ones, and the tops of full chains."""

from duelsets.checks import is_alternative, require_alternative
from duelsets.errors import NoTop
from duelsets.tables import beats_all


def is_chain(table, value):
    """Return whether any value is a chain."""
    if not isinstance(value, tuple) or len(value) == 0:
        return False
    # No chain is longer than the table, so a long tuple is not looked through.
    if len(value) > len(table) or not all([is_alternative(table, one) for one in value]):
        return False
    # An alternative that is repeated does not beat itself.
    return all([beats_all(table, one, value[at + 1:]) for at, one in enumerate(value)])


def is_full_chain(table, value):
    """Return whether any value is a full chain."""
    return is_chain(table, value) and is_full(table, value)


def is_full(table, chain):
    """Return whether no alternative beats all of the chain; those in it do not beat themselves."""
    return not any([beats_all(table, one, chain) for one in range(len(table))])


def chain_tops(table):
    """Return the set of the tops of all full chains."""
    return tuple([one for one in range(len(table)) if first_full_chain(table, one) is not None])


def chain_for(table, one):
    """Return a full chain whose top is one."""
    require_alternative(table, one)
    chain = first_full_chain(table, one)
    if chain is None:
        raise NoTop(one)
    return chain


def first_full_chain(table, top):
    """Return the first full chain with this top in ascending order, or None."""
    for chain in each_chain_from(table, top):
        if is_full(table, chain):
            return chain
    return None


def full_chains(table):
    """Return the ascending tuple of all full chains."""
    return tuple(each_full_chain(table))


def each_full_chain(table):
    """Yield all full chains in ascending order."""
    for top in range(len(table)):
        for chain in each_chain_from(table, top):
            if is_full(table, chain):
                yield chain


def each_chain_from(table, top):
    """Yield all chains with this top in ascending order."""
    waiting = [(top,)]
    while waiting:
        chain = waiting.pop()
        yield chain
        # The last one that waits is taken next: a chain is followed by those that it begins, the lowest one first.
        for one in reversed(range(len(table))):
            if loses_to_all(table, one, chain):
                waiting.append(chain + (one,))


def loses_to_all(table, one, others):
    """Return whether each of the others beats one."""
    return all([table[one][other] == "-" for other in others])
