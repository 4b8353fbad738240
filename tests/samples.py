"""Tables, values and small tools that the tests share. Nothing here uses the package."""

import copy
import itertools

T = (".+-+", "-.++", "+-.+", "---.")
U = (".++-", "-.++", "--.+", "+--.")


def table_of_bits(size, bits):
    """The table whose duels i < j, in ascending order, are won by i where the bit is 1."""
    rows = [["."] * size for _ in range(size)]
    for at, (i, j) in enumerate(itertools.combinations(range(size), 2)):
        won = bits >> at & 1
        rows[i][j] = "-+"[won]
        rows[j][i] = "+-"[won]
    return tuple("".join(row) for row in rows)


def all_tables(size):
    pairs = size * (size - 1) // 2
    return [table_of_bits(size, bits) for bits in range(2 ** pairs)]


def some_tables(size, many=12):
    """All tables of up to 4 alternatives; of more, those in which the first or the last one wins all, and others."""
    if size <= 4:
        return all_tables(size)
    number = 2 ** (size * (size - 1) // 2)
    picked = [0, number - 1] + [(at * 0x9E3779B97F4A7C15 + at) % number for at in range(1, many + 1)]
    return [table_of_bits(size, bits) for bits in picked]


def many_tables():
    return [table for size in range(1, 10) for table in some_tables(size)]


def beats(table, one, other):
    return table[one][other] == "+"


def sets_by_size(size):
    """All sets of alternatives, in no order that the package promises."""
    return [members for many in range(size + 1) for members in itertools.combinations(range(size), many)]


def odd_values():
    """Values that are neither tables nor sets that are not empty nor alternatives, made anew for each call."""
    return [
        None, True, False, -1, -9, 9, 10, 10 ** 29, -(10 ** 29), "", "0", "1", ".", ".+", ".+\n-.", "none", "a" * 2000,
        [], [0], [0, 1], ["."], [".+", "-."], {}, {"0": 0}, {".": "."}, [[]], [None], [True], {"a": [1, (2,)]},
        deep_value(20), deep_value(25), list(range(1000)),
    ]


def not_kinds():
    """Values that are not kinds, made anew for each call."""
    words = ["All", "top ", " top", "tops", "TOP", "best", "lottery", "al", "", "all\n", "supports", "kind"]
    return [*odd_values(), 0, 1, (), ("top",), ["top"], {"top": True}, *words]


def deep_value(levels):
    value = 0
    for level in range(levels):
        value = [value] if level % 2 else (value,)
    return [value]


def odd_certificates(size):
    """Values that are no certificates of a top set or an uncovered set for a table of this size."""
    values = [*odd_values(), (), 0, ("in",), ("out",), "in", "out", ("in", "out"), ("out", "in"), (None, None)]
    for part in [*odd_values(), (), (None,) * (size + 1), (None,) * (size - 1), (size,), (-1,), (0, 0), (1, 0), -size]:
        values += [("in", part), ["in", part], ("in", part, part), ("In", part), (True, part), (["in"], part)]
        values += [("out", part), ["out", part], ("out", part, None), ("", part), (None, part), {"out": part}]
    return values


def spoiled(value, size):
    """Values like this result with parts replaced: each part on its own, added, left out or put into a list."""
    yield from (None, True, False, -1, size, 10 ** 29, "", "0", "in", "out", (), [], [value], (value,), {"in": value})
    if type(value) is int:
        yield from (bool(value), str(value), [value], *range(-size, size + 2))
    if type(value) is str:
        yield from (value.upper(), value + " ", value[:-1], [value])
    if type(value) is tuple:
        yield from (list(value), value + (None,), value + value, (None,) + value, value[1:], value[:-1], value[::-1])
        for at, part in enumerate(value):
            for other in spoiled(part, size):
                yield value[:at] + (other,) + value[at + 1:]


def raised(error_class, function, *arguments):
    """The error of exactly this class that a call raises."""
    try:
        result = function(*arguments)
    except error_class as error:
        if error.__class__ is error_class:
            return error
        raise AssertionError(f"{function.__name__} raised {error!r}, not {error_class.__name__}") from error
    raise AssertionError(f"{function.__name__}{arguments!r} returned {result!r}, but {error_class.__name__} is due")


def outcome(function, arguments):
    """What a call gives, as a text that tells True from 1 and a tuple from a list."""
    try:
        return repr(function(*arguments))
    except (ValueError, LookupError) as error:
        return f"{error.__class__.__name__} {error.__dict__!r}"


def check_pure(case, function, *arguments):
    """Equal calls give equal results, and the arguments stay as they were."""
    before = repr(arguments)
    twin = copy.deepcopy(arguments)
    first = outcome(function, arguments)
    case.assertEqual(repr(arguments), before)
    case.assertEqual(outcome(function, arguments), first)
    case.assertEqual(outcome(function, twin), first)
