"""Searching in lists that need not be sorted: what is found, and where each search ends."""

from halfsearch.basics import check_node, check_values, count_nodes, paths_of
from halfsearch.errors import UnknownSide


def turn(twice, value, at_equal):
    """Where a search goes on at a value: "left" or "right", at an equal value what `at_equal` says."""
    if twice == 2 * value:
        return at_equal
    return "left" if twice < 2 * value else "right"


def search(tree, values, twice, at_equal):
    """The nodes at which a search is, and how it ends.

    At an equal value it ends, if `at_equal` is "end"; otherwise it goes on to the side that `at_equal` names.
    """
    nodes = []
    first = 0
    part = tree
    while part is not None:
        left, right = part
        node = first + count_nodes(left)
        nodes.append(node)
        way = turn(twice, values[node], at_equal)
        if way == "end":
            return nodes, ("found", node)
        if way == "left":
            part = left
        else:
            part = right
            first = node + 1
    return nodes, ("gap", first)


def bounds_below(values, above):
    """The open interval of a node with the path `above`, or None if it is empty."""
    low = max([values[node] for node, side in above if side == "right"], default=None)
    high = min([values[node] for node, side in above if side == "left"], default=None)
    if low is not None and high is not None and low >= high:
        return None
    return (low, high)


def label_of(bounds, value):
    """The label of a node with this interval and this value."""
    if bounds is None:
        return "dead"
    low, high = bounds
    if low is not None and value <= low:
        return "low"
    if high is not None and value >= high:
        return "high"
    return "found"


def labels_of(tree, values):
    """The labels for a tree and values that are checked."""
    ways = paths_of(tree)
    return [label_of(bounds_below(values, way), value) for way, value in zip(ways, values)]


def found_of(tree, values):
    """The nodes that are found, for a tree and values that are checked."""
    return [node for node, label in enumerate(labels_of(tree, values)) if label == "found"]


def twice_between(low, high):
    """A half of an odd number, passed in doubled, between two bounds, of which each may be missing."""
    if low is not None:
        return 2 * low + 1
    if high is not None:
        return 2 * high - 1
    return 1


def gap_step(tree, values, low, high):
    """The step for the numbers between two neighbouring values that are found."""
    # One number speaks for all of them; it is no whole one, so that its search cannot end at a node.
    _, ending = search(tree, values, twice_between(low, high), "end")
    return ("gap", low, high, ending[1])


def steps_of(tree, values):
    """The step table, for a tree and values that are checked."""
    table = []
    low = None
    for node in found_of(tree, values):
        high = values[node]
        table.append(gap_step(tree, values, low, high))
        table.append(("found", high, node))
        low = high
    table.append(gap_step(tree, values, low, None))
    return table


def find(tree, values, twice):
    """How the search for a number ends: ("found", node) or ("gap", gap)."""
    check_values(tree, values)
    _, ending = search(tree, values, twice, "end")
    return ending


def interval(tree, values, node):
    """The open interval of the numbers whose search comes to a node, or None if it is empty."""
    check_values(tree, values)
    check_node(tree, node)
    return bounds_below(values, paths_of(tree)[node])


def looked(tree, values, twice):
    """The nodes at which the search for a number is, in order."""
    check_values(tree, values)
    nodes, _ = search(tree, values, twice, "end")
    return nodes


def labels(tree, values):
    """The label of each node: "dead", "found", "low" or "high"."""
    check_values(tree, values)
    return labels_of(tree, values)


def found(tree, values):
    """The ascending list of the nodes that are found."""
    check_values(tree, values)
    return found_of(tree, values)


def steps(tree, values):
    """The step table: where the searches for all numbers end, in rising order of the numbers."""
    check_values(tree, values)
    return steps_of(tree, values)


def witness(tree, values, node):
    """The first ancestor at which the search for a node's value leaves the way to the node, or None."""
    check_values(tree, values)
    check_node(tree, node)
    for ancestor, side in paths_of(tree)[node]:
        if turn(2 * values[node], values[ancestor], "end") != side:
            return ancestor
    return None


def insertion(tree, values, twice, *, side="left"):
    """The gap into which a number is inserted, on this side of equal values."""
    check_values(tree, values)
    if not isinstance(side, str) or side not in ("left", "right"):
        raise UnknownSide(side)
    _, ending = search(tree, values, twice, side)
    return ending[1]
