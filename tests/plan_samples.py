"""Plans and plain definitions of what is in them, that the tests share. Nothing here uses the package."""

import functools
import random

from tests.samples import U, all_tables, odd_values
from tests.shapes import circle, drawn_table, linear_table, nearly_linear, shaped_tables

C = (".+-", "-.+", "+-.")
P = ((C, (-1, -1, -1)), (C, (0, -1, 0)))
Q = (((".+", "-."), (-1, -1)), ((".+", "-."), (0, 0)))


def flat_plan(table):
    return ((table, (-1,) * len(table)),)


def plain_size(plan, at=-1):
    """The number of alternatives of the nested table of an entry, without listing them."""
    sizes = []
    for _, children in plan:
        sizes.append(sum(1 if child == -1 else sizes[child] for child in children))
    return sizes[at]


def plain_addresses(plan, at=None):
    """All addresses from an entry on, listed one after another."""
    at = len(plan) - 1 if at is None else at
    found = []
    for step, child in enumerate(plan[at][1]):
        found += [(step,)] if child == -1 else [(step, *rest) for rest in plain_addresses(plan, child)]
    return found


def plain_duel(plan, one, other, at=None):
    """The sign of one address at another: both are of the nested table of this entry."""
    table, children = plan[len(plan) - 1 if at is None else at]
    if one[0] != other[0]:
        return table[one[0]][other[0]]
    if children[one[0]] == -1:
        return "."
    return plain_duel(plan, one[1:], other[1:], children[one[0]])


def plain_expanded(plan):
    addresses = plain_addresses(plan)
    return tuple("".join(plain_duel(plan, one, other) for other in addresses) for one in addresses)


def drawn_children(chance, size, at, singles):
    return tuple(-1 if at == 0 or chance.random() < singles else chance.randrange(at) for _ in range(size))


def drawn_plan(chance, entries, greatest, singles):
    """A plan of so many entries whose tables have at most the greatest number of alternatives."""
    plan = ()
    for at in range(entries):
        size = chance.randint(1, greatest)
        table = chance.choice([drawn_table(chance, size), chance.choice(shaped_tables(size))])
        plan += ((table, drawn_children(chance, size, at, singles)),)
    return plan


def plans_of_size(seed, many, low, high, greatest):
    chance = random.Random(seed)
    found = []
    while len(found) < many:
        plan = drawn_plan(chance, chance.randint(1, 5), greatest, chance.choice([0.3, 0.6]))
        if low <= plain_size(plan) <= high:
            found.append(plan)
    return found


@functools.cache
def small_plans():
    """Plans whose nested tables have at most nine alternatives."""
    plans = [flat_plan(table) for size in range(1, 4) for table in all_tables(size)]
    plans += [flat_plan(table) for size in range(4, 10) for table in shaped_tables(size)[:6]]
    plans += [P, Q, deep_plan(20), deep_plan(3) + flat_plan(U), great_plan()[:19] + flat_plan(C)]
    # A top set of one alternative whose own table has a greater one, and the other way round.
    plans += [flat_plan(C) + ((linear_table(2), (0, 0)),), flat_plan(linear_table(3)) + ((C, (0, 0, 0)),)]
    plans += [flat_plan(C) + (((".",), (0,)), (linear_table(3), (1, 0, 1)))]
    return tuple(plans + plans_of_size(1, 60, 2, 9, 4))


@functools.cache
def middle_plans():
    """Plans of more alternatives than a table has, which can still be listed."""
    plans = plans_of_size(2, 20, 10, 60, 5) + plans_of_size(3, 4, 61, 200, 9)
    for table in (*shaped_tables(7)[:4], *shaped_tables(8)[:2], *shaped_tables(9)[:4]):
        plans.append(flat_plan(table) + ((C, (0, -1, 0)),))
        plans.append(flat_plan(U) + ((table, (0, -1) * 3 + (0,) + (-1,) * (len(table) - 7)),))
    return tuple(plans)


def deep_plan(entries):
    """One alternative, at the end of as many steps as there are entries."""
    return tuple(((".",), (at - 1,)) for at in range(entries))


def great_plan(table=None, entries=20):
    """Each alternative of an entry stands for all of the entry before; without a table 9 ** entries in all."""
    tables = [circle(9)] * entries if table is None else [table] * entries
    return tuple((each, (at - 1,) * len(each)) for at, each in enumerate(tables))


@functools.cache
def great_plans():
    """Plans of twenty entries, most of them with more than 10 ** 12 alternatives."""
    chance = random.Random(4)
    plans = [great_plan(), great_plan(linear_table(9)), great_plan(U)]
    plans += [great_plan(table) for table in (nearly_linear(chance, 9, 4), *shaped_tables(9)[:3])]
    mixed = [chance.choice(shaped_tables(9)) for _ in range(20)]
    plans.append(tuple((table, (at - 1,) * 9) for at, table in enumerate(mixed)))
    for _ in range(5):
        # With a child that is one of the two entries before, the sizes grow fast although some are single ones.
        tables = [drawn_table(chance, chance.randint(7, 9)) for _ in range(20)]
        plans.append(tuple(
            (table, tuple(max(-1, at - chance.choice([1, 1, 1, 2, 20])) for _ in table))
            for at, table in enumerate(tables)
        ))
    assert all(plain_size(plan) > 10 ** 12 for plan in plans[:2] + plans[3:])
    return tuple(plans)


def odd_addresses(plan):
    """Values that are not addresses, some of them close to one."""
    address = plain_addresses(plan)[-1] if plain_size(plan) < 1000 else (0,) * len(plan)
    last = len(plan[-1][0])
    return [
        *odd_values(), (), 0, 1, (last,), (-1,), (-last,), (None,), ("0",), ((0,),), ([0],), (10 ** 29,), (0,) * 1000,
        address + (0,), address + (-1,), address[:-1], address[:-1] + (last + 9,), address[:-1] + (-1,), list(address),
        address[:-1] + (None,), address[:-1] + (True,) if address[-1] == 1 else address[:-1] + (False,), (address,),
        tuple(map(str, address)), (True,) * len(address), (False,) * len(address), {"0": address},
    ]
