"""Trees for a list: those that search it like a given one, and those under which the most elements are found."""

from halfsearch.basics import check_among, check_row, is_split, is_whole
from halfsearch.shapes import halved


def joined(parts):
    """A tree with these parts, in this order, and one more node between each two neighbouring ones.

    These nodes stand above the parts, in a tree of halving.
    """
    if len(parts) == 1:
        return parts[0]
    middle = len(parts) // 2
    return (joined(parts[:middle]), joined(parts[middle:]))


def is_rising_list(thing, many):
    """Whether something is a list of so many whole numbers that never falls."""
    if not isinstance(thing, list) or len(thing) != many:
        return False
    if not all([is_whole(value) for value in thing]):
        return False
    return all([one <= other for one, other in zip(thing, thing[1:])])


def blocks_of(goal):
    """The first node of each block of equal values, with the node behind its last one."""
    firsts = [node for node, value in enumerate(goal) if node == 0 or goal[node - 1] != value]
    return list(zip(firsts, firsts[1:] + [len(goal)]))


def found_in(block, value):
    """The place in a block of values at which this value can be found as the only one, or None."""
    if block[0] < value or block[-1] > value or value not in block:
        return None
    return block.index(value)


def passed_by(low, high):
    """A tree for the nodes between two that are found, which finds none of them.

    The first `low` nodes belong to the block before, of which the last value is not greater than the one found
    there; the other `high` ones belong to the block behind, of which the first value is not less.
    """
    tree = None
    if high > 0:
        tree = (None, halved(high - 1, "upper"))
    if low > 0:
        tree = (halved(low - 1, "upper"), tree)
    return tree


def rows_of(values):
    """As few rows that do not rise as hold each node once: each node stands in the first one that it can end.

    A node stands in a row because the last one of the row before, at that time, had a lesser value.
    """
    rows = []
    for node, value in enumerate(values):
        at = 0
        while at < len(rows) and values[rows[at][-1]] < value:
            at += 1
        if at == len(rows):
            rows.append([])
        rows[at].append(node)
    return rows


def rising_row(rows):
    """A longest rising row: from each of the rows, the last one first, the last node before the one taken before."""
    taken = []
    for row in rows[::-1]:
        earlier = [node for node in row if len(taken) == 0 or node < taken[-1]]
        taken.append(earlier[-1])
    return taken[::-1]


def tree_for(values, goal):
    """A tree under which the goal is the representative of the values, or "no"."""
    check_row(values)
    if not is_rising_list(goal, len(values)):
        return "no"
    parts = []
    low = 0
    for first, behind in blocks_of(goal):
        place = found_in(values[first:behind], goal[first])
        if place is None:
            return "no"
        parts.append(passed_by(low, place))
        low = behind - first - place - 1
    parts.append(passed_by(low, 0))
    return joined(parts)


def most_found(values):
    """A tree under which the most elements are found, and as many rows that do not rise and hold each node once."""
    check_row(values)
    rows = rows_of(values)
    edges = [-1] + rising_row(rows) + [len(values)]
    # What lies between the nodes of the rising row stands below them, and so makes none of them lost.
    parts = [halved(behind - before - 1, "upper") for before, behind in zip(edges, edges[1:])]
    return (joined(parts), rows)


def are_rows(values, thing):
    """Whether something is a list of rows that do not rise, none of them empty, that together hold each node once."""
    check_row(values)
    if not is_split(thing, list(range(len(values)))):
        return False
    pairs = [pair for row in thing for pair in zip(row, row[1:])]
    return all([one < other and values[one] >= values[other] for one, other in pairs])


def hidden_by(values, node):
    """The first node that hides the element, or None if it is found under every tree."""
    check_row(values)
    check_among(len(values), node)
    for other, value in enumerate(values):
        if (other < node and value >= values[node]) or (other > node and value <= values[node]):
            return other
    return None
