"""The definitions of DOC.md, word by word and without regard to speed, for the tests. Nothing here uses the package."""

import functools
import itertools

from tests.samples import beats, sets_by_size


def alternatives(table):
    return range(len(table))


def is_number(table, value):
    return type(value) is int and value in alternatives(table)


def is_plain_set(table, value):
    """Whether any value is a set, perhaps the empty one."""
    if type(value) is not tuple or not all(is_number(table, one) for one in value):
        return False
    return list(value) == sorted(set(value))


def is_dominant(table, members):
    others = set(alternatives(table)) - set(members)
    return len(members) > 0 and all(beats(table, one, other) for one in members for other in others)


@functools.cache
def dominant_family(table):
    return tuple(members for members in sets_by_size(len(table)) if is_dominant(table, members))


def reached_from(table, one):
    """All alternatives that are reached by going from an alternative to one that it beats."""
    found = {one}
    for _ in alternatives(table):
        found |= {other for at in found for other in alternatives(table) if beats(table, at, other)}
    return found


def right_steps(table, one, value):
    if type(value) is not tuple or len(value) != len(table) or value[one] is not None:
        return False
    others = [other for other in alternatives(table) if other != one]
    if not all(is_number(table, value[other]) and beats(table, value[other], other) for other in others):
        return False
    led = {one}
    for _ in alternatives(table):
        led |= {other for other in others if value[other] in led}
    return led == set(alternatives(table))


def right_top(table, one, value):
    """Whether any value is what top_holds accepts."""
    if type(value) is not tuple or len(value) != 2:
        return False
    if value[0] == "in":
        return right_steps(table, one, value[1])
    return value[0] == "out" and is_plain_set(table, value[1]) and is_dominant(table, value[1]) and one not in value[1]


def covers(table, one, other):
    return beats(table, one, other) and all(
        beats(table, one, third) for third in alternatives(table) if beats(table, other, third)
    )


def covers_within(table, members, one, other):
    """Whether one covers the other in the table restricted to the members and the other."""
    kept = sorted({*members, other})
    small = tuple("".join(table[i][j] for j in kept) for i in kept)
    return covers(small, kept.index(one), kept.index(other))


def right_middles(table, one, value):
    if type(value) is not tuple or len(value) != len(table):
        return False
    for other, middle in enumerate(value):
        if other == one or beats(table, one, other):
            right = middle is None
        else:
            right = is_number(table, middle) and beats(table, one, middle) and beats(table, middle, other)
        if not right:
            return False
    return True


def right_uncovered(table, one, value):
    """Whether any value is what uncovered_holds accepts."""
    if type(value) is not tuple or len(value) != 2:
        return False
    if value[0] == "in":
        return right_middles(table, one, value[1])
    return value[0] == "out" and is_number(table, value[1]) and covers(table, value[1], one)


def is_covering_set(table, value):
    """Whether any value is a covering set."""
    if not is_plain_set(table, value) or value == ():
        return False
    return all(
        any(covers_within(table, value, one, other) for one in value)
        for other in alternatives(table) if other not in value
    )


@functools.cache
def covering_family(table):
    return tuple(members for members in sets_by_size(len(table)) if is_covering_set(table, members))


def right_witnesses(table, members, value):
    if type(value) is not tuple or len(value) != len(table):
        return False
    for other, witness in enumerate(value):
        if other in members:
            right = witness is None
        else:
            right = is_number(table, witness) and witness in members and covers_within(table, members, witness, other)
        if not right:
            return False
    return True


def is_plain_chain(table, value):
    """Whether any value is a chain."""
    if type(value) is not tuple or value == () or not all(is_number(table, one) for one in value):
        return False
    return all(one != other and beats(table, one, other) for one, other in itertools.combinations(value, 2))


def is_plain_full_chain(table, value):
    """Whether any value is a full chain."""
    if not is_plain_chain(table, value):
        return False
    others = [other for other in alternatives(table) if other not in value]
    return not any(all(beats(table, other, one) for one in value) for other in others)


@functools.cache
def full_chain_family(table):
    """All full chains in ascending order. Of each set at most one order is a chain: the one by wins within the set."""
    found = []
    for members in sets_by_size(len(table)):
        order = sorted(members, key=lambda one: -sum(beats(table, one, other) for other in members))
        if is_plain_full_chain(table, tuple(order)):
            found.append(tuple(order))
    return tuple(sorted(found))


def smallest_of(family):
    """The set that is contained in all sets of a family."""
    inner = [members for members in family if all(set(members) <= set(other) for other in family)]
    assert len(inner) == 1, family
    return inner[0]


def plain_balances(table, weights):
    """The weights that each alternative beats minus those that beat it."""
    return tuple(
        sum(weights[other] for other in alternatives(table) if other != one and beats(table, one, other))
        - sum(weights[other] for other in alternatives(table) if other != one and beats(table, other, one))
        for one in alternatives(table)
    )


def is_balanced_weights(table, weights):
    """Whether integers from 0 on are not all 0 and no balance is positive."""
    return any(weights) and all(balance <= 0 for balance in plain_balances(table, weights))


def is_plain_component(table, value):
    """Whether any value is a component."""
    if not is_plain_set(table, value) or value == ():
        return False
    return all(
        all(beats(table, other, one) for one in value) or all(beats(table, one, other) for one in value)
        for other in alternatives(table) if other not in value
    )


@functools.cache
def component_family(table):
    return tuple(members for members in sets_by_size(len(table)) if is_plain_component(table, members))


def plain_parts(table):
    """The parts, in the order of their lowest alternatives."""
    if len(table) == 1:
        return ((0,),)
    dominant = [set(), *map(set, dominant_family(table))]
    if len(dominant) > 2:
        found = [tuple(sorted(dominant[k + 1] - dominant[k])) for k in range(len(dominant) - 1)]
    else:
        smaller = [set(members) for members in component_family(table) if len(members) < len(table)]
        found = [tuple(sorted(one)) for one in smaller if not any(one < other for other in smaller)]
    return tuple(sorted(found, key=lambda part: part[0]))
