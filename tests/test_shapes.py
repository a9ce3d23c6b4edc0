import random
import time
import unittest

from halfsearch import shapes
from halfsearch.errors import InvalidTree, UnknownNode, UnknownRule
from halfsearch.shapes import levels, path, size, tree_of
from tests import helper


def some_trees():
    """All small trees, and bigger ones of every shape."""
    trees = [tree for many in range(6) for tree in helper.all_trees(many)]
    rng = random.Random(5)
    for many in (7, 13, 20):
        trees.extend(helper.shaped_trees(many))
    trees.extend(helper.random_tree(rng, many) for many in range(6, 65))
    return trees + [helper.halved(list(range(64)), rule) for rule in ("upper", "lower")]


def nodes_with_levels(tree):
    """Each node with its level, by the nested triples of the tree."""
    rows = []

    def visit(part, level):
        if part is not None:
            node, left, right = part
            rows.append((node, level))
            visit(left, level + 1)
            visit(right, level + 1)

    visit(helper.numbered(tree)[0], 0)
    return rows


class InterfaceTest(helper.Case):
    def test_functions_and_their_parameters(self):
        told = {"tree_of": "(length, *, rule='upper')", "size": "(tree)", "path": "(tree, node)", "levels": "(tree)"}
        self.check_interface(shapes, told)

    def test_arguments_by_name(self):
        tree = tree_of(length=7, rule="lower")
        self.assertEqual(tree, tree_of(7, rule="lower"))
        self.assertEqual(size(tree=tree), 7)
        self.assertEqual(path(node=2, tree=tree), path(tree, 2))
        self.assertEqual(levels(tree=tree), levels(tree))

    def test_the_rule_is_passed_by_keyword_only(self):
        with self.assertRaises(TypeError):
            tree_of(3, "lower")


class HalvingTest(unittest.TestCase):
    def test_small_trees(self):
        leaf = (None, None)
        self.assertIsNone(tree_of(0))
        self.assertIsNone(tree_of(0, rule="lower"))
        self.assertEqual(tree_of(1), leaf)
        self.assertEqual(tree_of(1, rule="lower"), leaf)
        self.assertEqual(tree_of(3), (leaf, leaf))
        self.assertEqual(tree_of(4), ((leaf, None), leaf))
        self.assertEqual(tree_of(4, rule="lower"), (leaf, (None, leaf)))

    def test_the_rule_holds_for_every_part(self):
        for length in range(65):
            for rule in ("upper", "lower"):
                self.assertEqual(tree_of(length, rule=rule), helper.halved(list(range(length)), rule))

    def test_upper_is_the_default(self):
        for length in range(65):
            self.assertEqual(tree_of(length), tree_of(length, rule="upper"))

    def test_a_length_beyond_the_bounds_raises_no_error(self):
        self.assertEqual(size(tree_of(100)), 100)
        self.assertEqual(len(levels(tree_of(100, rule="lower"))), 7)

    def test_unknown_rules(self):
        for rule in helper.NO_NAMES + ["left", helper.Same()]:
            for length in (0, 1, 5):
                with self.subTest(kind=rule.__class__), self.assertRaises(UnknownRule) as caught:
                    tree_of(length, rule=rule)
                self.assertIs(caught.exception.name, rule)


class TreesTest(unittest.TestCase):
    def test_no_nodes(self):
        self.assertEqual((size(None), levels(None)), (0, []))

    def test_one_node(self):
        self.assertEqual((size((None, None)), path((None, None), 0), levels((None, None))), (1, [], [[0]]))

    def test_a_tree_by_hand(self):
        tree = ((None, ((None, None), None)), (None, None))
        self.assertEqual(size(tree), 5)
        self.assertEqual(levels(tree), [[3], [0, 4], [2], [1]])
        self.assertEqual(path(tree, 0), [(3, "left")])
        self.assertEqual(path(tree, 1), [(3, "left"), (0, "right"), (2, "left")])
        self.assertEqual(path(tree, 2), [(3, "left"), (0, "right")])
        self.assertEqual(path(tree, 3), [])
        self.assertEqual(path(tree, 4), [(3, "right")])

    def test_size_is_the_number_of_nodes(self):
        for tree in some_trees():
            self.assertEqual(size(tree), len(nodes_with_levels(tree)))

    def test_path_leads_from_the_root_to_the_node(self):
        for tree in some_trees():
            for node in range(size(tree)):
                self.assertEqual(path(tree, node), helper.way_to(tree, node))

    def test_levels_hold_each_node_at_its_depth(self):
        for tree in some_trees():
            rows = nodes_with_levels(tree)
            depth = max([level + 1 for _, level in rows], default=0)
            told = [sorted(node for node, level in rows if level == at) for at in range(depth)]
            self.assertEqual(levels(tree), told)

    def test_sixty_four_nodes_on_twenty_levels(self):
        tree = (helper.row_left(9, helper.row_right(10)), helper.halved(list(range(44)), "lower"))
        self.assertEqual((size(tree), len(levels(tree))), (64, 20))
        self.assertEqual(path(tree, 63)[0], (19, "right"))
        self.assertEqual(path(tree, 9), [(at, "left") for at in range(19, 9, -1)] +
                         [(at, "right") for at in range(9)])

    def test_trees_beyond_the_bounds_raise_no_error(self):
        tree = helper.row_right(2000)
        self.assertEqual((size(tree), path(tree, 1)), (2000, [(0, "right")]))
        self.assertEqual(levels(helper.row_left(70)), [[at] for at in range(69, -1, -1)])

    def test_results_are_new_lists(self):
        tree = tree_of(7)
        path(tree, 2).append("more")
        self.assertEqual(path(tree, 2), [(3, "left"), (1, "right")])
        rows = levels(tree)
        self.assertEqual(len({id(row) for row in rows}), len(rows))
        rows[1].append("more")
        rows.clear()
        self.assertEqual(levels(tree), [[3], [1, 5], [0, 2, 4, 6]])

    def test_every_call_ends_within_seconds(self):
        begun = time.monotonic()
        for tree in helper.shaped_trees(64):
            for node in range(64):
                path(tree, node)
            levels(tree)
        self.assertLess(time.monotonic() - begun, 20)


class WrongInputTest(unittest.TestCase):
    def test_no_trees(self):
        for thing in helper.NO_TREES:
            for call in (lambda: size(thing), lambda: levels(thing), lambda: path(thing, 0), lambda: path(thing, None)):
                with self.subTest(thing=thing), self.assertRaises(InvalidTree):
                    call()

    def test_a_wrong_part_deep_inside(self):
        for wrong in (0, [], (), "", False, (None,), (None, None, None), [None, None]):
            for tree in (helper.row_left(19, wrong), helper.row_right(19, wrong), helper.zigzag(19, wrong)):
                with self.subTest(wrong=wrong), self.assertRaises(InvalidTree):
                    size(tree)

    def test_no_nodes_of_the_tree(self):
        for many in (0, 1, 7):
            for node in [-1, -7, many, many + 1, 64, 10 ** 5000, helper.Same()] + helper.NO_NUMBERS:
                with self.subTest(many=many), self.assertRaises(UnknownNode) as caught:
                    path(tree_of(many), node)
                self.assertIs(caught.exception.node, node)


if __name__ == "__main__":
    unittest.main()
