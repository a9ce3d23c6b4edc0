"""Random orders: the chance of each node to be found, and the orders with a pattern, without going through them."""

from math import factorial, gcd

from halfsearch.basics import check_node, check_tree, count_nodes, paths_of
from halfsearch.errors import TooMany
from halfsearch.patterns import all_patterns, check_strings, impossible_node, owners_of

MOST_NODES = 12


def fraction(top, bottom):
    """A fraction in lowest terms."""
    shared = gcd(top, bottom)
    return (top // shared, bottom // shared)


def chance_of(above):
    """The chance that a node with the path `above` is found, as a fraction."""
    sides = [side for _, side in above]
    top = factorial(sides.count("left")) * factorial(sides.count("right"))
    return fraction(top, factorial(len(sides) + 1))


def with_found(ways):
    """Counts the orders with one more found node, which comes behind the last one.

    `ways[rank]` is, before and after, the number of orders of the nodes put in so far in which the last found
    one stands at this place, counted from 1 on (at 0, if there is none yet).
    """
    counts = [0]
    for many in ways:
        counts.append(counts[-1] + many)
    return counts


def with_low(ways):
    """Counts the orders with one more node, which may stand anywhere before the last found one."""
    return [0] + [rank * many for rank, many in enumerate(ways)]


def with_high(ways):
    """Counts the orders with one more node, which may stand anywhere behind the last found one."""
    return [(len(ways) - rank) * many for rank, many in enumerate(ways)] + [0]


def count_orders(tree, pattern):
    """The number of orders with a possible pattern."""
    owners = owners_of(tree, pattern)
    ways = [1]
    for owner in range(len(pattern)):
        if pattern[owner] == "found":
            ways = with_found(ways)
            for node in range(len(pattern)):
                if owners[node] == owner and pattern[node] == "low":
                    ways = with_low(ways)
                elif owners[node] == owner and pattern[node] == "high":
                    ways = with_high(ways)
    orders = sum(ways)
    # `ways` has one place more than nodes are put in; a dead node may stand anywhere.
    for places in range(len(ways), len(pattern) + 1):
        orders *= places
    return orders


def chance_found(tree, node):
    """The chance that the node is found in a random order, as a fraction."""
    check_tree(tree)
    check_node(tree, node)
    return chance_of(paths_of(tree)[node])


def average_found(tree):
    """The average number of nodes that are found in a random order, as a fraction."""
    check_tree(tree)
    top, bottom = 0, 1
    for above in paths_of(tree):
        more, parts = chance_of(above)
        top, bottom = fraction(top * parts + more * bottom, bottom * parts)
    return (top, bottom)


def count_found(tree):
    """The numbers of orders in which exactly so many nodes are found, from 0 on."""
    check_tree(tree)
    many = count_nodes(tree)
    if many > MOST_NODES:
        raise TooMany(many)
    counts = [0] * (many + 1)
    for pattern in all_patterns(tree):
        counts[pattern.count("found")] += count_orders(tree, pattern)
    return counts


def count_labels(tree, pattern):
    """The number of orders with this pattern."""
    check_strings(tree, pattern)
    if impossible_node(tree, pattern) is not None:
        return 0
    return count_orders(tree, pattern)
