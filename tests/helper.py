"""Trees, lists and an independent way to search, against which the program is held.

Nothing here uses the program. Numbers that are looked for are Fractions, and a tree is first turned into
nested triples `(node, left, right)`, so that a search needs no counting.
"""

import copy
import inspect
import random
import unittest
from fractions import Fraction
from itertools import groupby, product

HALF = Fraction(1, 2)
QUARTER = Fraction(1, 4)

GREAT = 10 ** 20 - 1

NO_TREES = [
    0, 1, -1, True, False, "", "ab", "None", 1.5, b"", b"ab", {}, {1: 2}, set(), object(), type, [],
    [None, None], [(None, None), None], (), (None,), (None, None, None), (None, None, None, None), (1, None),
    (None, 0), (False, None), (None, ""), (None, "ab"), (None, []), ([None, None], None), (None, [None, None]),
    ((None, None), (None,)), ((None, (None, None, None)), None), ((None, None), ((None, 7), None)),
]

NO_NUMBERS = [True, False, None, "", "1", 1.0, 0.0, b"1", [], [1], (), (1,), {}, set(), object(), int, Fraction(1)]

NO_NAMES = [None, 0, 1, True, False, "", "Left", "UPPER", "middle", "left ", " upper", b"left", b"upper", 1.5, [],
            ["left"], ("upper",), ("left",), {}, {"left": 1}, {"upper"}, object(), str, 10 ** 5000]

NO_LISTS = [None, 3, True, "", "012", b"012", (), (0, 1, 2), {}, {0: 1, 1: 2}, {0, 1}, range(3), iter([0, 1]), object()]

# What stands for anything made of tuples, lists, dicts, strings, whole numbers, booleans and None.
ANY_THINGS = [None, True, False, 0, 1, -1, GREAT, 10 ** 5000, "", "no", "[]", (), (0,), ((), ()), (None, None), {},
              {0: 0}, {"0": [0]}, [None], [True], [False], ["0"], [""], [()], [(0,)], [{}], [[None]], [[True]],
              [[False]], [["0"]], [[()]], [[[]]], [[[0]]], [[{}]], [[0], 1], [[0], None], [[0], "1"], [[0], (1,)],
              [[0], {1: 1}], [[0], [-1]], [[0], [10 ** 5000]]]


class Same:
    """Equal to everything, and not to be told from a name by `==` alone."""

    def __eq__(self, other):
        return True

    def __hash__(self):
        return 0


class Case(unittest.TestCase):
    def check_interface(self, module, told):
        """Whether the functions have these parameters and stand in this very file."""
        for name, parameters in told.items():
            function = getattr(module, name)
            self.assertEqual(str(inspect.signature(function)), parameters)
            self.assertEqual((function.__module__, function.__name__), (module.__name__, name))

    def fails(self, call, kind, field=None, told=None):
        """Whether a call raises an error of this very class, and what its field is."""
        with self.assertRaises(kind) as caught:
            call()
        self.assertIs(caught.exception.__class__, kind)
        if field is not None:
            self.assertIs(getattr(caught.exception, field), told)

    def gives_new(self, call, *arguments):
        """Whether a call leaves its arguments as they are, and gives an equal result of new lists again and again."""
        kept = copy.deepcopy(arguments)
        first = call(*arguments)
        lists = lists_within(first)
        self.assertEqual(len({id(row) for row in lists}), len(lists))
        told = copy.deepcopy(first)
        taken = {id(row) for row in lists_within(list(arguments))}
        self.assertFalse(taken & {id(row) for row in lists})
        for row in lists:
            row.append("more")
            row[0] = "other"
        self.assertEqual(arguments, kept)
        self.assertEqual(call(*arguments), told)
        self.assertEqual(arguments, kept)


def lists_within(thing):
    """Each list in something made of lists and tuples, as often as it stands there."""
    found = [thing] if isinstance(thing, list) else []
    if isinstance(thing, (list, tuple)):
        for part in thing:
            found.extend(lists_within(part))
    return found


def numbered(tree, first=0):
    """The tree as nested triples, and the number behind its last node."""
    if tree is None:
        return None, first
    left, node = numbered(tree[0], first)
    right, behind = numbered(tree[1], node + 1)
    return (node, left, right), behind


def walk(tree, goes):
    """The nodes and the side taken at each, and the gap in which the walk ends, or None.

    `goes(node)` is "left", "right" or "end".
    """
    part, _ = numbered(tree)
    way = []
    gap = 0
    while part is not None:
        node, left, right = part
        side = goes(node)
        way.append((node, side))
        if side == "end":
            return way, None
        part = left if side == "left" else right
        gap = node if side == "left" else node + 1
    return way, gap


def send(tree, values, number):
    """The way of the search for a number, and how it ends."""
    def goes(node):
        if number == values[node]:
            return "end"
        return "left" if number < values[node] else "right"

    way, gap = walk(tree, goes)
    return way, ("found", way[-1][0]) if gap is None else ("gap", gap)


def way_to(tree, node):
    """The path of a node."""
    return walk(tree, lambda at: "end" if at == node else "left" if node < at else "right")[0][:-1]


def root_first(tree):
    """The nodes, each before those of its left part and these before those of its right part."""
    def visit(part):
        return [] if part is None else [part[0]] + visit(part[1]) + visit(part[2])

    return visit(numbered(tree)[0])


def probes(values):
    """Every whole and half number that matters, ascending; one number where there are no values."""
    numbers = {value + shift for value in values for shift in (-HALF, Fraction(0), HALF)}
    return sorted(numbers) or [HALF]


def found_nodes(tree, row):
    """The nodes at whose value the search for this value ends."""
    return {node for node in range(len(row)) if send(tree, row, row[node])[1] == ("found", node)}


class Shown:
    """What the searches for all numbers that matter show of a list."""

    def __init__(self, tree, values):
        self.tree = tree
        self.values = values
        self.probes = probes(values)
        self.sent = [send(tree, values, number) for number in self.probes]

    def comers(self, node):
        """The positions among the probes of those whose search comes to a node."""
        return [at for at, (way, _) in enumerate(self.sent) if node in [step[0] for step in way]]

    def interval(self, node):
        """The probe before the first comer and the one behind the last one, or None."""
        comers = self.comers(node)
        if not comers:
            return None
        assert comers == list(range(comers[0], comers[-1] + 1))
        low = None if comers[0] == 0 else self.probes[comers[0] - 1]
        high = None if comers[-1] == len(self.probes) - 1 else self.probes[comers[-1] + 1]
        return low, high

    def label(self, node):
        """By the sides that the comers take at the node."""
        comers = self.comers(node)
        sides = {side for at in comers for step, side in self.sent[at][0] if step == node}
        if not sides:
            return "dead"
        if "end" in sides:
            return "found"
        assert len(sides) == 1
        return "low" if sides == {"right"} else "high"

    def labels(self):
        return [self.label(node) for node in range(len(self.values))]

    def found(self):
        """The nodes at which some search ends."""
        return sorted({end[1] for _, end in self.sent if end[0] == "found"})

    def steps(self):
        """The ends of all searches, each run of equal ends told once."""
        runs = []
        for number, (_, end) in zip(self.probes, self.sent):
            if not runs or runs[-1][1] != end:
                runs.append((number, end))
        table = []
        for at, (number, end) in enumerate(runs):
            if end[0] == "found":
                table.append(("found", number, end[1]))
            else:
                low = runs[at - 1][0] if at else None
                high = runs[at + 1][0] if at + 1 < len(runs) else None
                table.append(("gap", low, high, end[1]))
        return table

    def witness(self, node):
        """The last node that the search for the value has in common with the way to the node."""
        taken = send(self.tree, self.values, self.values[node])[0]
        if node in [step[0] for step in taken]:
            return None
        for (one, side), (other, goes) in zip(way_to(self.tree, node), taken):
            assert one == other
            if side != goes:
                return one
        raise AssertionError("the search went on where the way to the node ends")

    def insertion(self, number, side):
        """Where a number ends that is nearly this one, but equal to no value."""
        shifted = number - QUARTER if side == "left" else number + QUARTER
        return send(self.tree, self.values, shifted)[1][1]


def falls(values):
    """The pairs of neighbouring values of which the second one is less."""
    return [(one, other) for one, other in zip(values, values[1:]) if other < one]


def halved(row, rule):
    """The tree of halving for the elements of a row, by cutting the row."""
    if not row:
        return None
    middle = len(row) // 2 if rule == "upper" else (len(row) - 1) // 2
    return halved(row[:middle], rule), halved(row[middle + 1:], rule)


def all_trees(many):
    """All trees with so many nodes."""
    if many == 0:
        return [None]
    return [(left, right) for before in range(many)
            for left in all_trees(before) for right in all_trees(many - 1 - before)]


def all_lists(many, top):
    """All lists of so many numbers from 0 up to, but not including, `top`."""
    return [list(row) for row in product(range(top), repeat=many)]


def all_cuts(many):
    """All ways to cut a row of so many nodes into blocks, as lists of their lengths."""
    if many == 0:
        return [[]]
    return [[first] + rest for first in range(1, many + 1) for rest in all_cuts(many - first)]


def made_things(many):
    """All lists of lists of nodes with at most so many in total, also nodes twice and empty lists."""
    things = [[], [[]]]
    for length in range(1, many + 1):
        for nodes in product(range(many), repeat=length):
            for lengths in all_cuts(length):
                rest = list(nodes)
                thing = [[rest.pop(0) for _ in range(count)] for count in lengths]
                things.append(thing)
                if length == many:
                    things.append(thing + [[]])
    return things


def random_cut(rng, many, chance):
    """The lengths of blocks, each place between two nodes being cut with this chance."""
    row = [0]
    for _ in range(many - 1):
        row.append(row[-1] + (rng.random() < chance))
    return run_lengths(row[:many])


def run_lengths(row):
    """The lengths of the runs of equal neighbours."""
    return [len(list(run)) for _, run in groupby(row)]


def spread(lengths):
    """A list that never falls and has the same value exactly within each block."""
    return [at for at, length in enumerate(lengths) for _ in range(length)]


def row_left(many, below=None):
    """A tree in which each node has a left part only."""
    for _ in range(many):
        below = (below, None)
    return below


def row_right(many, below=None):
    """A tree in which each node has a right part only."""
    for _ in range(many):
        below = (None, below)
    return below


def zigzag(many, below=None):
    """A tree whose nodes lie in turn left and right of the one above."""
    for at in range(many):
        below = (None, below) if at % 2 else (below, None)
    return below


def uneven(many):
    """A tree whose left parts have about a quarter of the nodes."""
    if many == 0:
        return None
    before = many // 4
    return uneven(before), uneven(many - 1 - before)


def random_tree(rng, many, most_levels=20):
    """A tree with so many nodes and at most so many levels."""
    if many == 0:
        return None
    room = 2 ** (most_levels - 1) - 1
    before = rng.randint(max(0, many - 1 - room), min(many - 1, room))
    return random_tree(rng, before, most_levels - 1), random_tree(rng, many - 1 - before, most_levels - 1)


def shaped_trees(many):
    """One tree of each shape with so many nodes."""
    row = list(range(many))
    return [halved(row, "upper"), halved(row, "lower"), row_left(many), row_right(many), zigzag(many), uneven(many)]


def shaped_lists(rng, many):
    """One list of each kind with so many values."""
    few = [rng.randint(0, max(1, many // 3)) for _ in range(many)]
    return [
        list(range(many)),
        list(range(many, 0, -1)),
        [7] * many,
        few,
        sorted(few),
        rng.sample(range(many), many),
        [rng.randint(-9, 9) for _ in range(many)],
        [rng.randint(-GREAT, GREAT) for _ in range(many)],
        [rng.choice([GREAT, GREAT - 1, 1 - GREAT, -GREAT]) for _ in range(many)],
    ]


def samples():
    """Pairs of a tree and values of it: all small ones, and bigger ones of every shape and kind."""
    pairs = [(tree, row) for many, top in [(0, 1), (1, 2), (2, 3), (3, 3), (4, 3)]
             for tree in all_trees(many) for row in all_lists(many, top)]
    rng = random.Random(20)
    for many in (5, 7, 8, 12, 19):
        for tree in shaped_trees(many) + [random_tree(rng, many) for _ in range(6)]:
            pairs.extend((tree, row) for row in shaped_lists(rng, many))
    for tree in shaped_trees(64)[:2] + [uneven(64), random_tree(rng, 64), row_left(10, row_right(10))]:
        pairs.extend((tree, row) for row in shaped_lists(rng, numbered(tree)[1]))
    return pairs


def larger_trees(rng):
    """Trees of every shape with 5 to 64 nodes, some of them of 20 levels."""
    trees = [tree for many in (5, 7, 8, 12, 19) for tree in shaped_trees(many)]
    trees.extend(random_tree(rng, many) for many in range(6, 65, 4))
    trees.extend(halved(list(range(many)), rule) for many in (31, 63, 64) for rule in ("upper", "lower"))
    return trees + [uneven(64), row_left(9, row_right(10, halved([0] * 45, "upper"))), zigzag(20)]
