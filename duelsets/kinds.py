"""Kinds of best alternatives, in tables and in the nested tables of plans."""

from duelsets.chains import chain_tops
from duelsets.checks import is_integer
from duelsets.coverings import smallest_covering
from duelsets.covers import uncovered_set
from duelsets.errors import NoFlag, NoIndex, NoKind, NotOfKind
from duelsets.lotteries import common_divisor, lottery, support
from duelsets.plans import END, count_ways, each_way, entries_on_way, free_nodes, moved, require_address, ways_behind
from duelsets.tops import top_set

KINDS = ("all", "top", "uncovered", "chain", "covering", "support")


def require_kind(value):
    """Raise NoKind with the value unless it is a kind."""
    if value not in KINDS:
        raise NoKind(value)


def members(table, kind):
    """Return the set of this kind of a table."""
    require_kind(kind)
    if kind == "top":
        return top_set(table)
    if kind == "uncovered":
        return uncovered_set(table)
    if kind == "chain":
        return chain_tops(table)
    if kind == "covering":
        return smallest_covering(table)
    if kind == "support":
        return support(table)
    return tuple(range(len(table)))


def member_sets(table, *kinds):
    """Return the tuple of the sets of these kinds of a table."""
    return tuple([members(table, kind) for kind in kinds])


def select(table, **wanted):
    """Return the set of the alternatives that are of each kind with True and of no kind with False."""
    for kind in wanted:
        require_kind(kind)
    for value in list(wanted.values()):
        if not isinstance(value, bool):
            raise NoFlag(value)
    left = tuple(range(len(table)))
    for kind, value in wanted.items():
        found = members(table, kind)
        left = tuple([one for one in left if (one in found) == value])
    return left


def kind_nodes(plan, kind):
    """Return nodes, as free_nodes does, from the last of which exactly the addresses of this kind lead to an end."""
    require_kind(kind)
    if kind == "top":
        return free_nodes(plan) + judged_nodes(plan)
    return [tuple([(step, children[step]) for step in members(table, kind)]) for table, children in plan]


def judged_nodes(plan):
    """Return nodes for the top set that stand behind the free ones."""
    nodes = []
    for table, children in plan:
        steps = top_set(table)
        # Behind the only step the rest is judged again; behind one of several it may be any steps, by a free node.
        many = len(plan) if len(steps) == 1 else 0
        nodes.append(tuple([(step, moved(children[step], many)) for step in steps]))
    return nodes


def count_members(plan, kind):
    """Return the number of alternatives of this kind of the nested table."""
    return count_ways(kind_nodes(plan, kind))[-1]


def is_member(plan, kind, address):
    """Return whether the alternative with this address is of this kind."""
    require_kind(kind)
    require_address(plan, address)
    return index_of(kind_nodes(plan, kind), address) is not None


def member_index(plan, kind, address):
    """Return the index of an address among those of this kind."""
    require_kind(kind)
    require_address(plan, address)
    index = index_of(kind_nodes(plan, kind), address)
    if index is None:
        raise NotOfKind(address)
    return index


def index_of(nodes, address):
    """Return the number of ways before the one with the steps of the address, or None if no way has them."""
    counts = count_ways(nodes)
    at = len(nodes) - 1
    index = 0
    for step in address:
        follow = None
        for other, behind in nodes[at]:
            if other < step:
                index += ways_behind(counts, behind)
            if other == step:
                follow = behind
        if follow is None:
            return None
        at = follow
    return index


def member_at(plan, kind, index):
    """Return the address with this index among those of this kind."""
    nodes = kind_nodes(plan, kind)
    counts = count_ways(nodes)
    if not is_integer(index) or not 0 <= index < counts[-1]:
        raise NoIndex(index)
    address = ()
    at = len(nodes) - 1
    left = index
    while at != END:
        step, at, left = step_at(nodes[at], counts, left)
        address = address + (step,)
    return address


def step_at(node, counts, index):
    """Return the step of the way with this index from a node, what is behind the step, and the index from there."""
    left = index
    for step, behind in node:
        many = ways_behind(counts, behind)
        if left < many:
            return (step, behind, left)
        left -= many
    # Not reached: the index is less than the number of ways from the node.
    return None


def each_member(plan, kind):
    """Yield the addresses of all alternatives of this kind in ascending order."""
    nodes = kind_nodes(plan, kind)
    yield from each_way(nodes)


def share(plan, address):
    """Return the share of the alternative with this address as a fraction."""
    require_address(plan, address)
    above = 1
    below = 1
    for entry, step in zip(entries_on_way(plan, address), address):
        weights = lottery(entry[0])
        above *= weights[step]
        below *= sum(weights)
    divisor = common_divisor((above, below))
    return (above // divisor, below // divisor)
