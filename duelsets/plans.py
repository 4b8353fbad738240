"""Plans of nested tables, in which an alternative may stand for a whole nested table, and the addresses in them."""

from duelsets.bounds import MAX_ENTRIES, MAX_SIZE
from duelsets.checks import is_alternative, is_integer, is_one_each
from duelsets.errors import NoAddress, NoPlans, TooLarge
from duelsets.tables import is_table, wins_of

# Stands for a child of an entry, and for a node behind a step, where an address ends.
END = -1


def is_plan(value):
    """Return whether any value is a plan."""
    if not isinstance(value, tuple) or not 1 <= len(value) <= MAX_ENTRIES:
        return False
    return all([is_entry(entry, at) for at, entry in enumerate(value)])


def is_entry(value, at):
    """Return whether any value is right as the entry with this index."""
    if not isinstance(value, tuple) or len(value) != 2 or not is_table(value[0]):
        return False
    return is_one_each(value[0], value[1]) and all([is_integer(child) and END <= child < at for child in value[1]])


def free_nodes(plan):
    """Return nodes for the entries, with all steps: each node is a tuple of (step, index of the node behind it)."""
    return [tuple(enumerate(children)) for table, children in plan]


def count_ways(nodes):
    """Return for each node the number of ways from it to an end; nodes behind a node stand before it."""
    counts = []
    for node in nodes:
        counts.append(sum([ways_behind(counts, behind) for step, behind in node]))
    return counts


def ways_behind(counts, behind):
    """Return the number of ways from a node, or the one of no steps from an end."""
    return 1 if behind == END else counts[behind]


def each_way(nodes):
    """Yield the steps of each way from the last node to an end, in ascending order."""
    waiting = [((), len(nodes) - 1)]
    while waiting:
        way, at = waiting.pop()
        if at == END:
            yield way
        else:
            # The last one that waits is taken next, so the lowest step goes last.
            for step, behind in reversed(nodes[at]):
                waiting.append((way + (step,), behind))


def plan_size(plan):
    """Return the number of alternatives of the nested table."""
    return count_ways(free_nodes(plan))[-1]


def is_address(plan, value):
    """Return whether any value is the address of an alternative."""
    if not isinstance(value, tuple):
        return False
    at = len(plan) - 1
    for step in value:
        if at == END or not is_alternative(plan[at][0], step):
            return False
        at = plan[at][1][step]
    return at == END


def require_address(plan, value):
    """Raise NoAddress with the value unless it is the address of an alternative."""
    if not is_address(plan, value):
        raise NoAddress(value)


def entries_on_way(plan, address):
    """Return the entries that an address goes through, one for each step."""
    entries = []
    at = len(plan) - 1
    for step in address:
        entries.append(plan[at])
        at = plan[at][1][step]
    return entries


def plan_duel(plan, one, other):
    """Return the sign of the alternative with the address one in its duel with the other one."""
    require_address(plan, one)
    require_address(plan, other)
    # Two addresses go through the same entries up to the first step in which they differ; no address begins another.
    for entry, step, other_step in zip(entries_on_way(plan, one), one, other):
        if step != other_step:
            return entry[0][step][other_step]
    return "."


def plan_score(plan, address):
    """Return the number of alternatives that the one with this address beats."""
    require_address(plan, address)
    counts = count_ways(free_nodes(plan))
    score = 0
    for entry, step in zip(entries_on_way(plan, address), address):
        table, children = entry
        score += sum([ways_behind(counts, children[other]) for other in wins_of(table, step)])
    return score


def expand_plan(plan):
    """Return the nested table as a table, in the order of the addresses."""
    # The size is known without the addresses, of which there may be far too many.
    if plan_size(plan) > MAX_SIZE:
        raise TooLarge(MAX_SIZE)
    nodes = free_nodes(plan)
    addresses = list(each_way(nodes))
    return tuple(["".join([plan_duel(plan, one, other) for other in addresses]) for one in addresses])


def series_plan(*plans):
    """Return the plan in which each plan beats all later ones."""
    if len(plans) == 0:
        raise NoPlans()
    if len(plans) > MAX_SIZE:
        raise TooLarge(MAX_SIZE)
    if sum([len(plan) for plan in plans]) >= MAX_ENTRIES:
        raise TooLarge(MAX_ENTRIES)
    entries = []
    lasts = []
    for plan in plans:
        before = len(entries)
        entries += [(table, moved_children(children, before)) for table, children in plan]
        lasts.append(len(entries) - 1)
    return tuple(entries) + ((ordered_table(len(plans)), tuple(lasts)),)


def moved_children(children, many):
    """Return the children with the indexes of entries increased."""
    return tuple([moved(child, many) for child in children])


def moved(index, many):
    """Return an index increased, or an end as it is."""
    return END if index == END else index + many


def ordered_table(size):
    """Return the table in which each alternative beats all later ones."""
    return tuple(["-" * one + "." + "+" * (size - 1 - one) for one in range(size)])
