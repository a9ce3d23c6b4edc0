"""Lists that act alike: what tells two lists apart, and the list that never falls and acts like a given one."""

from halfsearch.basics import check_values, paths_of
from halfsearch.patterns import owners_of
from halfsearch.searching import bounds_below, found_of, label_of, labels_of, search


def check_both(tree, values, other):
    """Raises the errors for the tree, then for the values, then for the other values."""
    check_values(tree, values)
    check_values(tree, other)


def ends_alike(tree, values, other, twice):
    """Whether the search for a number ends in the same way in both lists."""
    _, ending = search(tree, values, twice, "end")
    _, other_ending = search(tree, other, twice, "end")
    return ending == other_ending


def allowed(bounds, value):
    """The least and the greatest value that a node may have in lists that act alike; None means any.

    `bounds` is the interval of the node in one of these lists, and `value` its value there.
    """
    label = label_of(bounds, value)
    if label == "found":
        return (value, value)
    if label == "low":
        return (None, bounds[0])
    if label == "high":
        return (bounds[1], None)
    return (None, None)


def fits(value, low, high):
    """Whether a value lies between two bounds, both included, of which each may be missing."""
    return (low is None or value >= low) and (high is None or value <= high)


def all_allowed(tree, values):
    """What is allowed at each node in lists that act like this one."""
    return [allowed(bounds_below(values, above), value) for above, value in zip(paths_of(tree), values)]


def alike(tree, values, other):
    """("alike",), or ("apart", twice) with the least number whose searches end differently."""
    check_both(tree, values, other)
    edges = [values[node] for node in found_of(tree, values)] + [other[node] for node in found_of(tree, other)]
    # Below all edges both lists end in gap 0, and between two of them nothing changes in either list.
    for edge in sorted(edges):
        for twice in (2 * edge, 2 * edge + 1):
            if not ends_alike(tree, values, other, twice):
                return ("apart", twice)
    return ("alike",)


def breaking(tree, values, other):
    """The nodes at which `values` has a value that no list acting like `other` has."""
    check_both(tree, values, other)
    return [node for node, (low, high) in enumerate(all_allowed(tree, other)) if not fits(values[node], low, high)]


def count_alike(tree, values, least, most):
    """The number of lists with values from `least` to `most` that act like this one."""
    check_values(tree, values)
    many = 1
    for low, high in all_allowed(tree, values):
        first = least if low is None else max(least, low)
        last = most if high is None else min(most, high)
        many *= max(0, last - first + 1)
    return many


def representative(tree, values):
    """The one list that acts like this one and never falls."""
    check_values(tree, values)
    return [values[owner] for owner in owners_of(tree, labels_of(tree, values))]
