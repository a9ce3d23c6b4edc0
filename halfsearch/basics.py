"""What the other files share: whole numbers, the nodes of trees and of rows, and the checks of arguments.

Only the functions called `check_..` examine their arguments; the others take them as checked.
"""

from halfsearch.errors import InvalidTree, InvalidValues, UnknownNode


def is_whole(thing):
    """Whether something is a whole number."""
    return isinstance(thing, int) and not isinstance(thing, bool)


def is_node(thing, many):
    """Whether something is one of so many nodes."""
    return is_whole(thing) and 0 <= thing < many


def is_split(thing, nodes):
    """Whether something is a list of lists, none of them empty, that together hold each of the nodes once.

    The nodes are given in ascending order.
    """
    if not isinstance(thing, list):
        return False
    held = []
    for row in thing:
        if not isinstance(row, list) or len(row) == 0:
            return False
        for node in row:
            if not is_whole(node):
                return False
            held.append(node)
    return sorted(held) == nodes


def is_tree(thing):
    """Whether something is a tree."""
    waiting = [thing]
    while waiting:
        part = waiting.pop()
        if part is not None:
            if not isinstance(part, tuple) or len(part) != 2:
                return False
            waiting.append(part[1])
            waiting.append(part[0])
    return True


def count_nodes(tree):
    """The number of nodes of a tree."""
    many = 0
    waiting = [tree]
    while waiting:
        part = waiting.pop()
        if part is not None:
            many += 1
            waiting.append(part[1])
            waiting.append(part[0])
    return many


def walk(tree):
    """Each node with its path, a node before those of its left part and these before those of its right part."""
    rows = []
    waiting = [(tree, 0, [])]
    while waiting:
        part, first, above = waiting.pop()
        if part is not None:
            left, right = part
            node = first + count_nodes(left)
            rows.append((node, above))
            waiting.append((right, node + 1, above + [(node, "right")]))
            waiting.append((left, first, above + [(node, "left")]))
    return rows


def paths_of(tree):
    """The paths of all nodes, in the order of the nodes."""
    paths = [[] for _ in range(count_nodes(tree))]
    for node, above in walk(tree):
        paths[node] = above
    return paths


def check_tree(tree):
    """Raises InvalidTree for anything but a tree."""
    if not is_tree(tree):
        raise InvalidTree("not a tree")


def check_among(many, node):
    """Raises UnknownNode for anything but one of so many nodes."""
    if not is_node(node, many):
        raise UnknownNode(node)


def check_node(tree, node):
    """Raises UnknownNode for anything but a node of the tree, which is checked before."""
    check_among(count_nodes(tree), node)


def check_row(row):
    """Raises InvalidValues for anything but a list of whole numbers."""
    if not isinstance(row, list):
        raise InvalidValues(None)
    for node, value in enumerate(row):
        if not is_whole(value):
            raise InvalidValues(node)


def check_values(tree, values):
    """Raises InvalidTree for anything but a tree, then InvalidValues for anything but values of it."""
    check_tree(tree)
    if isinstance(values, list) and len(values) != count_nodes(tree):
        raise InvalidValues(None)
    check_row(values)
