"""Wishes: which elements must change so that wished ones are found, and which can keep their values.

A node is concerned if it is wished or an ancestor of a wished node.
"""

from halfsearch.basics import check_tree, check_values, count_nodes, is_node, is_split, is_whole, paths_of
from halfsearch.errors import UnknownNode


def check_wished(tree, wished):
    """Raises UnknownNode for the first item that is not a node of the tree or occurs earlier in the list."""
    if not isinstance(wished, list):
        raise UnknownNode(wished)
    many = count_nodes(tree)
    for at, node in enumerate(wished):
        if not is_node(node, many) or node in wished[:at]:
            raise UnknownNode(node)


def check_wishes(tree, values, wished):
    """Raises the errors for the tree, then for the values, then for the wished nodes."""
    check_values(tree, values)
    check_wished(tree, wished)


def greater_nodes(tree, wished):
    """For each concerned node those that must have a greater value because one of the two is wished."""
    ways = paths_of(tree)
    nodes = wished + [ancestor for node in wished for ancestor, _ in ways[node]]
    greater = {node: [] for node in sorted(set(nodes))}
    for node in wished:
        for ancestor, side in ways[node]:
            if side == "left":
                greater[node].append(ancestor)
            else:
                greater[ancestor].append(node)
    return greater


def distances(tree, wished):
    """For each concerned node the distance to each node that it is required before."""
    greater = greater_nodes(tree, wished)
    far = {}
    # A node is required before nodes with greater numbers only, so these are done first.
    for one in sorted(greater, reverse=True):
        steps = {}
        for middle in greater[one]:
            steps[middle] = max(steps.get(middle, 0), 1)
            for other, more in far[middle].items():
                steps[other] = max(steps.get(other, 0), 1 + more)
        far[one] = steps
    return far


def conflicts(tree, values, wished):
    """For each concerned node those that it is required before and that cannot keep their values beside it.

    If one node is in conflict with a second one and this one with a third one, then the first one is in conflict
    with the third one, because the distance to that one is at least the sum of both distances.
    """
    rows = {}
    for one, steps in distances(tree, wished).items():
        rows[one] = [other for other in sorted(steps) if values[other] < values[one] + steps[other]]
    return rows


def gains_next(one, rows, before, tried):
    """Whether a node gets a next one in its chain, without any other node losing its own.

    Notes in `before` which node comes before each one in its chain, and in `tried` which ones were asked for.
    """
    for other in rows[one]:
        if other not in tried:
            tried[other] = True
            if other not in before or gains_next(before[other], rows, before, tried):
                before[other] = one
                return True
    return False


def fewest_chains(rows):
    """The node before each node that is not the first one of its chain, in as few chains as possible."""
    before = {}
    for one in sorted(rows):
        gains_next(one, rows, before, {})
    return before


def chains_of(rows, before):
    """The chains in which these nodes come before each other."""
    behind = {one: other for other, one in before.items()}
    chains = []
    for node in sorted(rows):
        if node not in before:
            chain = [node]
            while chain[-1] in behind:
                chain.append(behind[chain[-1]])
            chains.append(chain)
    return chains


def keepers(rows, before):
    """As many nodes as there are chains, no two of them in conflict."""
    followed = {one: True for one in before.values()}
    # From the last nodes of the chains on: to each node in conflict with one that is reached, and from there to the
    # one before it in its chain. If a node without one before it were reached, fewer chains would do.
    reached = [one for one in sorted(rows) if one not in followed]
    waiting = list(reached)
    barred = {}
    while waiting:
        one = waiting.pop()
        for other in rows[one]:
            if other not in barred:
                barred[other] = True
                reached.append(before[other])
                waiting.append(before[other])
    return [node for node in sorted(reached) if node not in barred]


def required(tree, wished):
    """The ascending list of the pairs of the required order."""
    check_tree(tree)
    check_wished(tree, wished)
    far = distances(tree, wished)
    return [(one, other) for one in sorted(far) for other in sorted(far[one])]


def distance(tree, wished, one, other):
    """The distance of two concerned nodes, 0 if the first one is not required before the second one."""
    check_tree(tree)
    check_wished(tree, wished)
    far = distances(tree, wished)
    for node in (one, other):
        if not is_whole(node) or node not in far:
            raise UnknownNode(node)
    return far[one].get(other, 0)


def can_keep(tree, values, wished, kept):
    """Whether something is a list of concerned nodes, each at most once, that can keep their values."""
    check_wishes(tree, values, wished)
    rows = conflicts(tree, values, wished)
    if not isinstance(kept, list):
        return False
    for at, node in enumerate(kept):
        if not is_whole(node) or node not in rows or node in kept[:at]:
            return False
    return not any([other in rows[one] for one in kept for other in kept])


def repair(tree, values, wished):
    """As many nodes as can keep their values, and as many chains that hold each concerned node once."""
    check_wishes(tree, values, wished)
    rows = conflicts(tree, values, wished)
    before = fewest_chains(rows)
    return (keepers(rows, before), chains_of(rows, before))


def repaired(tree, values, wished):
    """New values with which all wished nodes are found, different at as few nodes as possible."""
    kept, _ = repair(tree, values, wished)
    greater = greater_nodes(tree, wished)
    # So low that a node without a kept one before it comes low enough for each kept one behind it.
    lowest = min([values[node] for node in kept], default=0) - len(greater)
    floors = {node: lowest for node in greater}
    row = list(values)
    for one in sorted(greater):
        if one not in kept:
            row[one] = floors[one]
        for other in greater[one]:
            floors[other] = max(floors[other], row[one] + 1)
    return row


def are_chains(tree, values, wished, thing):
    """Whether something is a list of chains, none of them empty, that together hold each concerned node once."""
    check_wishes(tree, values, wished)
    rows = conflicts(tree, values, wished)
    if not is_split(thing, sorted(rows)):
        return False
    return all([other in rows[one] for chain in thing for one, other in zip(chain, chain[1:])])
