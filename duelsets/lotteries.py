"""Lotteries: the only weights of a table that no alternative beats on average."""

from duelsets.checks import is_integer, is_one_each
from duelsets.tables import all_sets, beats, losses_of, wins_of


def balances(table, weights):
    """Return for each alternative the weights that it beats minus those that beat it."""
    return tuple([balance_of(table, weights, one) for one in range(len(table))])


def balance_of(table, weights, one):
    """Return the weights that one beats minus those that beat it."""
    won = sum([weights[other] for other in wins_of(table, one)])
    return won - sum([weights[other] for other in losses_of(table, one)])


def is_lottery(table, value):
    """Return whether any value is the lottery of the table; there is one only, so it need not be found for this."""
    return is_weights(table, value) and is_balanced(table, value)


def is_weights(table, value):
    """Return whether any value is weights: not all 0, and without a common divisor greater than 1."""
    if not is_one_each(table, value) or not all([is_integer(weight) and weight >= 0 for weight in value]):
        return False
    return common_divisor(value) == 1


def is_balanced(table, weights):
    """Return whether no alternative has a positive balance."""
    return max(balances(table, weights)) <= 0


def common_divisor(numbers):
    """Return the greatest common divisor of integers from 0 on, or 0 if all of them are 0."""
    divisor = 0
    for number in numbers:
        rest = number
        while rest > 0:
            divisor, rest = rest, divisor % rest
    return divisor


def lottery(table):
    """Return the lottery, by trying each set with an odd number of alternatives as its support."""
    even = pfaffians(table)
    for members in all_sets(table):
        if len(members) % 2 == 1:
            weights = weights_within(table, members, even)
            if min(weights) >= 0 and is_balanced(table, weights):
                divisor = common_divisor(weights)
                return tuple([weight // divisor for weight in weights])
    # Not reached: each table has a lottery.
    return None


def support(table):
    """Return the set of the alternatives with a positive weight."""
    return tuple([one for one, weight in enumerate(lottery(table)) if weight > 0])


def weights_within(table, members, even):
    """Return numbers for all alternatives, 0 outside an odd number of members, that make the members' balances 0.

    Up to a factor there are no others. They need not have the same sign.
    """
    weights = [0] * len(table)
    sign = 1
    for at, one in enumerate(members):
        weights[one] = sign * even[members[:at] + members[at + 1:]]
        sign = -sign
    # The factor is free: the first member gets a positive weight, so all do in the support of the lottery.
    if weights[members[0]] < 0:
        return [-weight for weight in weights]
    return weights


def pfaffians(table):
    """Return the Pfaffian of each set with an even number of alternatives: an odd number, a root of the determinant.

    The matrix of a set has 1 for a won duel and -1 for a lost one.
    """
    found = {(): 1}
    for members in sorted(all_sets(table), key=len):
        if len(members) % 2 == 0 and len(members) > 0:
            found[members] = pfaffian(table, members, found)
    return found


def pfaffian(table, members, smaller):
    """Return the Pfaffian of a set from those of its sets with two alternatives fewer."""
    first = members[0]
    rest = members[1:]
    total = 0
    sign = 1
    for at, other in enumerate(rest):
        left = smaller[rest[:at] + rest[at + 1:]]
        total += sign * left if beats(table, first, other) else -sign * left
        sign = -sign
    return total
