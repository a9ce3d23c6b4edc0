"""Patterns: which labels the nodes of a tree can have, and the blocks into which they cut the nodes."""

from halfsearch.basics import check_tree, count_nodes, is_whole, walk
from halfsearch.errors import InvalidBlocks, InvalidLabels, TooMany
from halfsearch.searching import labels_of

MOST_NODES = 10


def killer_of(pattern, above):
    """The first ancestor whose label makes a node with the path `above` dead, or None."""
    for ancestor, side in above:
        if (pattern[ancestor], side) in (("low", "left"), ("high", "right")):
            return ancestor
    return None


def bound_of(pattern, above, side):
    """The nearest ancestor labelled "found" of which a node with the path `above` lies on this side, or None."""
    nearest = None
    for ancestor, turned in above:
        if turned == side and pattern[ancestor] == "found":
            nearest = ancestor
    return nearest


def is_possible(pattern, node, above):
    """Whether the label of a node is possible with those on its path `above`, which are possible."""
    label = pattern[node]
    # A dead ancestor needs no look of its own, since what made it dead lies above this node, too.
    if killer_of(pattern, above) is not None:
        return label == "dead"
    if label == "low":
        return bound_of(pattern, above, "right") is not None
    if label == "high":
        return bound_of(pattern, above, "left") is not None
    return label == "found"


def impossible_node(tree, pattern):
    """The first node from the root down whose label is not possible with those above it, or None."""
    for node, above in walk(tree):
        if not is_possible(pattern, node, above):
            return node
    return None


def owners_of(tree, pattern):
    """For each node the node labelled "found" of its block, for a possible pattern."""
    owners = list(range(len(pattern)))
    for node, above in walk(tree):
        label = pattern[node]
        if label == "low":
            owners[node] = bound_of(pattern, above, "right")
        elif label == "high":
            owners[node] = bound_of(pattern, above, "left")
        elif label == "dead":
            # It lies between its killer and the owner of that one, and a block has no holes.
            owners[node] = owners[killer_of(pattern, above)]
    return owners


def all_patterns(tree):
    """The possible patterns of a tree that is checked, in no order that is promised."""
    many = count_nodes(tree)
    rows = [[0]] if many > 0 else [[]]
    # Each way to cut the nodes into blocks is told by a list that never falls, with the same values in a block.
    for _ in range(many - 1):
        rows = [row + [row[-1] + step] for row in rows for step in (0, 1)]
    return [labels_of(tree, row) for row in rows]


def check_strings(tree, pattern):
    """Raises InvalidTree for anything but a tree, then InvalidLabels without one string for each node."""
    check_tree(tree)
    if not isinstance(pattern, list) or len(pattern) != count_nodes(tree):
        raise InvalidLabels(None)
    for label in pattern:
        if not isinstance(label, str):
            raise InvalidLabels(None)


def check_lengths(tree, lengths):
    """Raises InvalidBlocks for anything but lengths of blocks of the tree, which is checked before."""
    if not isinstance(lengths, list):
        raise InvalidBlocks("the lengths are not a list")
    for length in lengths:
        if not is_whole(length) or length < 1:
            raise InvalidBlocks("a length is not a whole number from 1 on")
    if sum(lengths) != count_nodes(tree):
        raise InvalidBlocks("the lengths do not add up to the number of nodes")


def check_pattern(tree, pattern):
    """Raises InvalidLabels for anything but a possible pattern, with the first node that is not possible."""
    check_strings(tree, pattern)
    node = impossible_node(tree, pattern)
    if node is not None:
        raise InvalidLabels(node)


def count_patterns(tree):
    """The number of possible patterns."""
    check_tree(tree)
    # Between each two neighbouring nodes there may be a cut.
    return 1 << max(0, count_nodes(tree) - 1)


def blocks(tree, pattern):
    """The lengths of the blocks of a possible pattern, from left to right."""
    check_pattern(tree, pattern)
    owners = owners_of(tree, pattern)
    return [owners.count(node) for node, label in enumerate(pattern) if label == "found"]


def pattern_of(tree, lengths):
    """The pattern with blocks of these lengths, from left to right."""
    check_tree(tree)
    check_lengths(tree, lengths)
    return labels_of(tree, [at for at, length in enumerate(lengths) for _ in range(length)])


def each_pattern(tree):
    """Yields the possible patterns in ascending order."""
    check_tree(tree)
    many = count_nodes(tree)
    if many > MOST_NODES:
        raise TooMany(many)
    for pattern in sorted(all_patterns(tree)):
        yield pattern


def list_for(tree, pattern):
    """A list of the numbers from 0 on, each once, with this pattern."""
    check_pattern(tree, pattern)
    values = [0] * len(pattern)
    placed = 0
    # With the low values before and the high ones behind all that are found, each limit holds.
    for label in ("low", "found", "dead", "high"):
        for node in range(len(pattern)):
            if pattern[node] == label:
                values[node] = placed
                placed += 1
    return values
