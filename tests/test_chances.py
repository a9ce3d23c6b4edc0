import copy
import random
import time
import unittest
from fractions import Fraction
from itertools import permutations, product
from math import comb, factorial, prod

from halfsearch import chances as module
from halfsearch.chances import average_found, chance_found, count_found, count_labels
from halfsearch.errors import InvalidLabels, InvalidTree, TooMany, UnknownNode
from halfsearch.patterns import each_pattern, pattern_of
from halfsearch.searching import labels
from halfsearch.shapes import levels, path, size, tree_of
from tests import helper


def as_fraction(pair):
    """A fraction that must be written in lowest terms, with a positive bottom."""
    top, bottom = pair
    told = Fraction(top, bottom)
    assert (top.__class__, bottom.__class__, pair.__class__) == (int, int, tuple)
    assert (top, bottom) == (told.numerator, told.denominator)
    return told


class Orders:
    """What going through all orders of a tree with a few nodes shows."""

    def __init__(self, tree):
        self.tree = tree
        self.many = helper.numbered(tree)[1]
        self.by_node = [0] * self.many
        self.by_number = [0] * (self.many + 1)
        for order in permutations(range(self.many)):
            found = [node for node in range(self.many)
                     if helper.send(tree, order, order[node])[1] == ("found", node)]
            self.by_number[len(found)] += 1
            for node in found:
                self.by_node[node] += 1

    def by_labels(self):
        """The number of orders with each pattern."""
        counts = {}
        for order in permutations(range(self.many)):
            pattern = tuple(helper.Shown(self.tree, list(order)).labels())
            counts[pattern] = counts.get(pattern, 0) + 1
        return counts


def some_orders():
    """All trees with up to five nodes, and some with six and seven."""
    trees = [tree for many in range(5) for tree in helper.all_trees(many)]
    trees += helper.all_trees(5)[::4] + helper.shaped_trees(6)[::2] + [helper.zigzag(6), tree_of(7)]
    return [Orders(tree) for tree in trees]


ORDERS = some_orders()


def cycles(many):
    """The numbers of orders with exactly so many values that are greater than all before them."""
    counts = [1]
    for before in range(many):
        counts = [(counts + [0])[at] * before + ([0] + counts)[at] for at in range(before + 2)]
    return counts


def limits(tree, pattern):
    """For each found node the numbers of values that must be less and of those that must be greater."""
    nodes = [node for node in range(len(pattern)) if pattern[node] == "found"]
    less = dict.fromkeys(nodes, 0)
    greater = dict.fromkeys(nodes, 0)
    for node, label in enumerate(pattern):
        if label in ("low", "high"):
            side = "right" if label == "low" else "left"
            bound = [at for at, turned in helper.way_to(tree, node) if turned == side and pattern[at] == "found"][-1]
            counts = less if label == "low" else greater
            counts[bound] += 1
    return [(less[node], greater[node]) for node in nodes]


def signed_orders(tree, pattern):
    """The number of orders with a pattern, by leaving out what must be greater.

    That a value is greater means that it is free, less the orders in which it is less. With only lesser values
    below a row that rises, the chance is the product of the chances that each one of the row is the greatest of
    itself and all that lies below it. Each product goes over the numbers of greater ones that are taken as lesser.
    """
    pairs = limits(tree, pattern)
    total = Fraction(0)
    for taken in product(*[range(greater + 1) for _, greater in pairs]):
        chance = Fraction(1)
        below = 0
        for (less, greater), many in zip(pairs, taken):
            below += 1 + less + many
            chance *= Fraction((-1) ** many * comb(greater, many), below)
        total += chance
    return total * factorial(len(pattern))


def great_patterns():
    """Trees with up to 64 nodes and patterns of them that `signed_orders` counts within a moment."""
    rng = random.Random(14)
    rows = []
    for tree in helper.larger_trees(rng):
        many = helper.numbered(tree)[1]
        for chance in (0.2, 0.5, 0.7, 0.85, 0.95):
            pattern = pattern_of(tree, helper.random_cut(rng, many, chance))
            if prod(greater + 1 for _, greater in limits(tree, pattern)) <= 3000:
                rows.append((tree, pattern))
    return rows


class InterfaceTest(helper.Case):
    def test_functions_and_their_parameters(self):
        self.check_interface(module, {
            "chance_found": "(tree, node)",
            "average_found": "(tree)",
            "count_found": "(tree)",
            "count_labels": "(tree, pattern)",
        })

    def test_arguments_by_name(self):
        tree = tree_of(5)
        pattern = ["found", "low", "found", "high", "found"]
        self.assertEqual(chance_found(node=3, tree=tree), chance_found(tree, 3))
        self.assertEqual(average_found(tree=tree), average_found(tree))
        self.assertEqual(count_found(tree=tree), count_found(tree))
        self.assertEqual(count_labels(pattern=pattern, tree=tree), count_labels(tree, pattern))

    def test_arguments_stay_as_they_were(self):
        for tree in helper.shaped_trees(6):
            for pattern in list(each_pattern(tree)) + [["low"] * 6, ["lost"] * 6]:
                kept = copy.deepcopy((tree, pattern))
                count_labels(tree, pattern)
                count_found(tree)
                average_found(tree)
                chance_found(tree, 4)
                self.assertEqual((tree, pattern), kept)

    def test_results_are_new_lists(self):
        for tree in (None, tree_of(4)):
            counts = count_found(tree)
            told = list(counts)
            counts.append("more")
            counts[0] = "other"
            self.assertEqual(count_found(tree), told)

    def test_kinds_of_values(self):
        tree = tree_of(4)
        self.assertEqual({number.__class__ for number in count_found(tree)}, {int})
        for pattern in (["found"] * 4, ["lost"] * 4):
            self.assertIs(count_labels(tree, pattern).__class__, int)


class ByHandTest(unittest.TestCase):
    def test_no_nodes(self):
        self.assertEqual((average_found(None), count_found(None), count_labels(None, [])), ((0, 1), [1], 1))

    def test_one_node(self):
        tree = (None, None)
        self.assertEqual((chance_found(tree, 0), average_found(tree), count_found(tree)), ((1, 1), (1, 1), [0, 1]))
        self.assertEqual([count_labels(tree, [label]) for label in ("found", "low", "high", "dead")], [1, 0, 0, 0])

    def test_two_nodes(self):
        for tree, label in ((((None, None), None), "high"), ((None, (None, None)), "low")):
            root = 1 if label == "high" else 0
            self.assertEqual((chance_found(tree, root), chance_found(tree, 1 - root)), ((1, 1), (1, 2)))
            self.assertEqual((average_found(tree), count_found(tree)), ((3, 2), [0, 1, 1]))
            pattern = ["found", "found"]
            self.assertEqual(count_labels(tree, pattern), 1)
            pattern[1 - root] = label
            self.assertEqual(count_labels(tree, pattern), 1)

    def test_turns_in_both_ways(self):
        tree = helper.zigzag(6)
        self.assertEqual(path(tree, 3), [(0, "right"), (5, "left"), (1, "right"), (4, "left"), (2, "right")])
        told = [(1, 1), (1, 6), (1, 30), (1, 60), (1, 12), (1, 2)]
        self.assertEqual([chance_found(tree, node) for node in range(6)], told)

    def test_rows(self):
        for many in (1, 2, 5, 20, 64):
            for tree, nodes in ((helper.row_right(many), range(many)), (helper.row_left(many), range(many)[::-1])):
                self.assertEqual([chance_found(tree, node) for node in nodes], [(1, at + 1) for at in range(many)])
                total = sum(Fraction(1, at + 1) for at in range(many))
                self.assertEqual(average_found(tree), (total.numerator, total.denominator))

    def test_halving(self):
        self.assertEqual([average_found(tree_of(2 ** depth - 1)) for depth in range(7)],
                         [(depth, 1) for depth in range(7)])

    def test_limits_and_free_places(self):
        self.assertEqual(count_labels(tree_of(3), ["high", "found", "low"]), 1)
        # The value of node 3 is the greatest of six, those of nodes 0, 1 and 2 rise, and the one of node 4 is free.
        pattern = ["found", "found", "found", "found", "dead", "low", "low"]
        self.assertEqual(count_labels(tree_of(7), pattern), factorial(5) // factorial(3) * 7)
        # With the values 2, 1, 0, 3 in this order node 5 has four places before 3, with 2, 1, 3, 0 it has three.
        pattern = ["high", "found", "low", "found", "dead", "low"]
        self.assertEqual(labels(tree_of(6), [9, 2, 1, 4, 5, 3]), pattern)
        self.assertEqual(count_labels(tree_of(6), pattern), (4 + 3) * 6)


class AgainstAllOrdersTest(unittest.TestCase):
    def test_chance_found(self):
        for orders in ORDERS:
            for node in range(orders.many):
                told = Fraction(orders.by_node[node], factorial(orders.many))
                self.assertEqual(as_fraction(chance_found(orders.tree, node)), told)

    def test_average_found(self):
        for orders in ORDERS:
            told = Fraction(sum(orders.by_node), factorial(orders.many))
            self.assertEqual(as_fraction(average_found(orders.tree)), told)

    def test_count_found(self):
        for orders in ORDERS:
            self.assertEqual(count_found(orders.tree), orders.by_number)

    def test_count_labels(self):
        for orders in ORDERS:
            if orders.many < 5:
                counts = orders.by_labels()
                for pattern in product(("found", "low", "high", "dead", "lost"), repeat=orders.many):
                    self.assertEqual(count_labels(orders.tree, list(pattern)), counts.get(pattern, 0))

    def test_count_labels_of_five_and_six_nodes(self):
        for tree in helper.all_trees(5)[::7] + [helper.zigzag(6)]:
            counts = Orders(tree).by_labels()
            self.assertEqual({pattern: count_labels(tree, list(pattern)) for pattern in counts}, counts)


class AgainstOtherWaysTest(unittest.TestCase):
    def test_chances_by_the_turns(self):
        for tree in helper.larger_trees(random.Random(8)):
            for node in range(size(tree)):
                sides = [side for _, side in helper.way_to(tree, node)]
                lefts, rights = sides.count("left"), sides.count("right")
                told = Fraction(1, (lefts + rights + 1) * comb(lefts + rights, lefts))
                self.assertEqual(as_fraction(chance_found(tree, node)), told)

    def test_averages_are_sums_of_chances(self):
        for tree in helper.larger_trees(random.Random(8)):
            told = sum(as_fraction(chance_found(tree, node)) for node in range(size(tree)))
            self.assertEqual(as_fraction(average_found(tree)), told)

    def test_orders_with_great_patterns(self):
        rows = great_patterns()
        self.assertGreater(len([1 for _, pattern in rows if len(pattern) == 64]), 5)
        for label in ("low", "high", "dead"):
            self.assertTrue(any(label in pattern for tree, pattern in rows if len(pattern) == 64), label)
        for tree, pattern in rows:
            self.assertEqual(count_labels(tree, pattern), signed_orders(tree, pattern))

    def test_patterns_of_rows_of_64_nodes(self):
        # Each low node has as many places as there are nodes before it.
        rng = random.Random(64)
        for chance in (0, 0.05, 0.3, 0.5, 0.9, 1):
            low = [node > 0 and rng.random() >= chance for node in range(64)]
            told = prod(node for node in range(64) if low[node])
            pattern = ["low" if is_low else "found" for is_low in low]
            self.assertEqual(count_labels(helper.row_right(64), pattern), told)
            pattern = ["high" if is_low else "found" for is_low in low[::-1]]
            self.assertEqual(count_labels(helper.row_left(64), pattern), told)

    def test_64_nodes(self):
        self.assertEqual(count_labels(tree_of(64), ["found"] * 64), 1)
        # In one block, all nodes but those straight left and right of the root are dead.
        pattern = pattern_of(tree_of(64), [64])
        lows, highs = pattern.count("low"), pattern.count("high")
        self.assertEqual((lows, highs, pattern.count("dead")), (5, 6, 52))
        told = Fraction(factorial(lows) * factorial(highs), factorial(lows + highs + 1)) * factorial(64)
        self.assertEqual(count_labels(tree_of(64), pattern), told)
        for at in range(64):
            changed = list(pattern)
            changed[at] = "lost"
            self.assertEqual(count_labels(tree_of(64), changed), 0)

    def test_count_found_of_rows(self):
        self.assertEqual([cycles(many) for many in range(5)],
                         [[1], [0, 1], [0, 1, 1], [0, 2, 3, 1], [0, 6, 11, 6, 1]])
        for many in range(13):
            for tree in (helper.row_left(many), helper.row_right(many)):
                self.assertEqual(count_found(tree), cycles(many))


class PromisesTest(unittest.TestCase):
    def test_chances_of_each_full_level_add_up_to_1(self):
        seen = 0
        for tree in helper.larger_trees(random.Random(8)) + [tree_of(63)]:
            for level, nodes in enumerate(levels(tree)):
                total = sum(as_fraction(chance_found(tree, node)) for node in nodes)
                if len(nodes) == 2 ** level:
                    seen = max(seen, level)
                    self.assertEqual(total, 1)
                else:
                    self.assertLess(total, 1)
        self.assertEqual(seen, 5)

    def test_each_order_has_one_pattern(self):
        for many in (7, 8, 9):
            for tree in helper.shaped_trees(many):
                self.assertEqual(sum(count_labels(tree, row) for row in each_pattern(tree)), factorial(many))

    def test_orders_with_a_node_found(self):
        for tree in helper.shaped_trees(8):
            counts = [0] * 8
            for pattern in each_pattern(tree):
                for node in range(8):
                    if pattern[node] == "found":
                        counts[node] += count_labels(tree, pattern)
            told = [Fraction(many, factorial(8)) for many in counts]
            self.assertEqual([as_fraction(chance_found(tree, node)) for node in range(8)], told)

    def test_the_numbers_found_give_the_average(self):
        rng = random.Random(11)
        for many in range(1, 13):
            for tree in helper.shaped_trees(many) + [helper.random_tree(rng, many)]:
                counts = count_found(tree)
                self.assertEqual((len(counts), sum(counts), counts[0]), (many + 1, factorial(many), 0))
                self.assertEqual(counts[many], 1)
                total = sum(number * orders for number, orders in enumerate(counts))
                self.assertEqual(as_fraction(average_found(tree)), Fraction(total, factorial(many)))

    def test_an_order_has_a_possible_pattern(self):
        rng = random.Random(15)
        for tree in helper.larger_trees(rng):
            order = rng.sample(range(size(tree)), size(tree))
            self.assertGreater(count_labels(tree, labels(tree, order)), 0)


class WrongInputTest(helper.Case):
    def test_no_trees(self):
        for thing in helper.NO_TREES:
            for call in (lambda: chance_found(thing, 0), lambda: chance_found(thing, None),
                         lambda: average_found(thing), lambda: count_found(thing),
                         lambda: count_labels(thing, ["found"]), lambda: count_labels(thing, None)):
                with self.subTest(thing=thing):
                    self.fails(call, InvalidTree)

    def test_no_nodes_of_the_tree(self):
        for many in (0, 1, 7):
            for node in [-1, -7, many, many + 1, 64, 10 ** 5000, helper.Same()] + helper.NO_NUMBERS:
                with self.subTest(many=many, kind=node.__class__):
                    self.fails(lambda: chance_found(tree_of(many), node), UnknownNode, "node", node)

    def test_more_than_twelve_nodes(self):
        for many in (13, 14, 40, 64):
            for tree in (tree_of(many), helper.row_left(many)):
                self.fails(lambda: count_found(tree), TooMany, "count", many)
        self.assertEqual(sum(count_found(tree_of(12))), factorial(12))

    def test_patterns_that_are_no_lists(self):
        for pattern in (None, 3, True, "fff", b"fff", ("found",) * 3, {0: "found", 1: "low", 2: "low"},
                        {"found", "low", "high"}, iter(["found"] * 3), object()):
            for many in (0, 3):
                with self.subTest(pattern=pattern):
                    self.fails(lambda: count_labels(tree_of(many), pattern), InvalidLabels, "node", None)
        self.fails(lambda: count_labels(None, ()), InvalidLabels, "node", None)

    def test_patterns_of_a_wrong_length(self):
        for many, length in ((0, 1), (1, 0), (1, 2), (3, 2), (3, 4), (64, 63), (64, 65)):
            for label in ("found", "lost"):
                self.fails(lambda: count_labels(tree_of(many), [label] * length), InvalidLabels, "node", None)

    def test_patterns_with_something_that_is_no_string(self):
        for wrong in (None, 0, True, b"found", ["found"], ("found",), {"found": 1}, object(), helper.Same()):
            for node in range(3):
                for rest in ("found", "lost", "dead"):
                    pattern = [rest] * 3
                    pattern[node] = wrong
                    self.fails(lambda: count_labels(tree_of(3), pattern), InvalidLabels, "node", None)

    def test_patterns_that_are_not_possible(self):
        for pattern in (["found", "low", "found"], ["low", "found", "found"], ["dead"] * 3, [""] * 3,
                        ["found", "found", "lost"], ["FOUND", "found", "found"], ["found", "found", "high"],
                        ["found", "high", "dead"], ["lost", "found", "found"], ["found", "dead", "found"]):
            self.assertEqual(count_labels(tree_of(3), pattern), 0)

    def test_the_tree_is_examined_first(self):
        self.fails(lambda: count_labels((None,), ("found",)), InvalidTree)
        self.fails(lambda: count_found((tree_of(20), 0)), InvalidTree)
        self.fails(lambda: chance_found((None, 0), -1), InvalidTree)

    def test_bases(self):
        for call in (lambda: count_labels(None, None), lambda: count_found(3), lambda: count_found(tree_of(13))):
            with self.assertRaises(ValueError):
                call()
        with self.assertRaises(LookupError):
            chance_found(None, 0)


class BoundsTest(unittest.TestCase):
    def test_every_call_ends_within_seconds(self):
        shapes = helper.shaped_trees(64) + [helper.row_left(9, helper.row_right(10, helper.halved([0] * 45, "lower")))]
        calls = [lambda tree=tree: count_found(tree) for tree in helper.shaped_trees(12)]
        for tree in shapes:
            calls.extend([lambda tree=tree: average_found(tree), lambda tree=tree: chance_found(tree, 31)])
            for lengths in ([64], [1] * 64, [2] * 32, [4] * 16, [20, 24, 20], [1, 62, 1]):
                calls.append(lambda tree=tree, lengths=lengths: count_labels(tree, pattern_of(tree, lengths)))
        for call in calls:
            begun = time.monotonic()
            call()
            self.assertLess(time.monotonic() - begun, 3)

    def test_trees_beyond_the_bounds_raise_no_error(self):
        self.assertEqual(chance_found(helper.row_right(150), 149), (1, 150))
        self.assertEqual(average_found(tree_of(127)), (7, 1))
        self.assertEqual(count_labels(helper.row_right(100), ["found"] + ["low"] * 99), factorial(99))


if __name__ == "__main__":
    unittest.main()
