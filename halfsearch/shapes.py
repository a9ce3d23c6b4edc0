"""Trees: the tree of halving, the number of nodes, paths and levels."""

from halfsearch.basics import check_node, check_tree, count_nodes, paths_of
from halfsearch.errors import UnknownRule


def tree_of(length, *, rule="upper"):
    """The tree of halving for a number of elements."""
    if not isinstance(rule, str) or rule not in ("upper", "lower"):
        raise UnknownRule(rule)
    return halved(length, rule)


def halved(length, rule):
    """The tree of halving by a rule that is checked."""
    if length < 1:
        return None
    root = length // 2 if rule == "upper" else (length - 1) // 2
    return (halved(root, rule), halved(length - root - 1, rule))


def size(tree):
    """The number of nodes."""
    check_tree(tree)
    return count_nodes(tree)


def path(tree, node):
    """The ancestors of a node from the root down, each with the side on which the node lies."""
    check_tree(tree)
    check_node(tree, node)
    return paths_of(tree)[node]


def levels(tree):
    """The ascending lists of the nodes of each level, from level 0 on."""
    check_tree(tree)
    rows = []
    for node, way in enumerate(paths_of(tree)):
        level = len(way)
        while len(rows) <= level:
            rows.append([])
        rows[level].append(node)
    return rows
