"""Tables of many shapes, of one to nine alternatives, that the tests share. Nothing here uses the package."""

import functools
import itertools
import random

from tests.samples import all_tables, table_of_bits


# Some uncovered alternatives of these tables are not the top of a full chain, which fewer than seven never show;
# in most of them the smallest covering set is still another one.
RARE_BITS = {
    7: (0x15A8BE, 0x3DE54, 0x106666, 0x2EF11),
    8: (0x301BA98, 0xC96FA75, 0x732902F, 0x8AA6723),
    9: (0x53EEFE734, 0x64C867062, 0x3F4DFC9A5, 0x976FBB6ED),
}

# The lotteries of these tables have many different weights.
WEIGHTY_BITS = {
    7: (0xE0B2A, 0x70D99),
    8: (0xFECAB15, 0xE5D271B),
    9: (0x8308D68AB, 0xF6D65B564, 0x35CFD2B8F),
}


def table_where(size, wins):
    """The table in which i beats j, for i < j, if wins(i, j)."""
    pairs = itertools.combinations(range(size), 2)
    return table_of_bits(size, sum(wins(i, j) << at for at, (i, j) in enumerate(pairs)))


def relabeled(table, order):
    return tuple("".join(table[i][j] for j in order) for i in order)


def without(table, one):
    return relabeled(table, [other for other in range(len(table)) if other != one])


def turned(table, one, other):
    return table_where(len(table), lambda i, j: (table[i][j] == "+") != ({i, j} == {one, other}))


def drawn_table(chance, size):
    return table_of_bits(size, chance.getrandbits(size * (size - 1) // 2) if size > 1 else 0)


def linear_table(size):
    return table_where(size, lambda i, j: True)


def nearly_linear(chance, size, many):
    table = linear_table(size)
    for one, other in chance.sample(list(itertools.combinations(range(size), 2)), many):
        table = turned(table, one, other)
    return table


def circle(size):
    """Each alternative beats the next half of the others; with an even size some of them beat one more."""
    return table_where(size, lambda i, j: 2 * (j - i) < size or 2 * (j - i) == size and i % 2 == 0)


def replaced(table, tables):
    """The table in which each alternative is replaced by those of its table."""
    places = [(one, inner) for one, small in enumerate(tables) for inner in range(len(small))]

    def wins(i, j):
        (one, inner), (other, last) = places[i], places[j]
        return (tables[one][inner][last] if one == other else table[one][other]) == "+"

    return table_where(len(places), wins)


def groups_in_a_circle(chance, sizes):
    return replaced(circle(len(sizes)), [drawn_table(chance, size) for size in sizes])


def copied(chance, table, one, many):
    """The table in which one alternative stands many times; the copies duel with each other in any way."""
    tables = [drawn_table(chance, many) if other == one else (".",) for other in range(len(table))]
    return replaced(table, tables)


def shuffled(chance, table):
    order = list(range(len(table)))
    chance.shuffle(order)
    return relabeled(table, order)


def shuffled_order(seed, size):
    return tuple(random.Random(seed).sample(range(size), size))


@functools.cache
def shaped_tables(size):
    """Tables of this size, each once: rare, linear, circles, drawn, nearly linear, groups, copies, many weights."""
    chance = random.Random(size)
    tables = [table_of_bits(size, bits) for bits in RARE_BITS.get(size, ())]
    tables += [linear_table(size), shuffled(chance, linear_table(size))]
    tables += [circle(size), shuffled(chance, circle(size))]
    tables += [drawn_table(chance, size) for _ in range(6)]
    for many in range(1, min(5, size * (size - 1) // 2 + 1)):
        tables += [nearly_linear(chance, size, many), shuffled(chance, nearly_linear(chance, size, many))]
    splits = [sizes for sizes in itertools.product(range(1, size), repeat=3) if sum(sizes) == size]
    tables += [groups_in_a_circle(chance, sizes) for sizes in chance.sample(splits, min(4, len(splits)))]
    if size >= 5:
        sizes = [1] * 5
        for _ in range(size - 5):
            sizes[chance.randrange(5)] += 1
        tables.append(groups_in_a_circle(chance, sizes))
    for many in range(2, min(5, size + 1)):
        rest = drawn_table(chance, size - many + 1)
        tables.append(copied(chance, rest, chance.randrange(len(rest)), many))
    tables += [table_of_bits(size, bits) for bits in WEIGHTY_BITS.get(size, ())]
    return tuple(dict.fromkeys(tables))


@functools.cache
def every_shape():
    """All tables of up to 4 alternatives, and shaped ones of up to 9."""
    small = [table for size in range(1, 5) for table in all_tables(size)]
    return tuple(small + [table for size in range(5, 10) for table in shaped_tables(size)])
