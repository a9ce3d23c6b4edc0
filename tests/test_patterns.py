import copy
import inspect
import random
import time
import unittest
from itertools import product

from halfsearch import patterns as module
from halfsearch.alike import representative
from halfsearch.errors import InvalidBlocks, InvalidLabels, InvalidTree, TooMany
from halfsearch.patterns import blocks, check_pattern, count_patterns, each_pattern, list_for, pattern_of
from halfsearch.searching import labels
from halfsearch.shapes import tree_of
from tests import helper

LABELS = ("dead", "found", "high", "low")

# The functions that take a pattern and raise the errors of check_pattern.
TAKERS = (check_pattern, blocks, list_for)

NO_LISTS = (None, 3, True, "fff", b"fff", ("found",) * 3, {0: "found", 1: "found", 2: "found"},
            {"found", "low", "high"}, iter(["found"] * 3), object())


def shown_labels(tree, values):
    """The labels of a list, as the searches for all numbers show them."""
    return helper.Shown(tree, values).labels()


def small_patterns(many, tree):
    """The labels of all lists of a few small values."""
    return {tuple(shown_labels(tree, values)) for values in helper.all_lists(many, many)}


SMALL = [(many, tree, small_patterns(many, tree)) for many in range(5) for tree in helper.all_trees(many)]


def made_cuts():
    """Trees with ways to cut them into blocks, and the patterns of these, as searches show them."""
    rng = random.Random(13)
    rows = [(tree, lengths) for many in range(1, 6) for tree in helper.all_trees(many)
            for lengths in helper.all_cuts(many)]
    for tree in helper.larger_trees(rng):
        many = helper.numbered(tree)[1]
        rows.extend((tree, helper.random_cut(rng, many, chance)) for chance in (0, 0.1, 0.3, 0.6, 1))
    return [(tree, lengths, shown_labels(tree, helper.spread(lengths))) for tree, lengths in rows]


CUTS = made_cuts()


class InterfaceTest(helper.Case):
    def test_functions_and_their_parameters(self):
        self.check_interface(module, {
            "check_pattern": "(tree, pattern)",
            "count_patterns": "(tree)",
            "blocks": "(tree, pattern)",
            "pattern_of": "(tree, lengths)",
            "each_pattern": "(tree)",
            "list_for": "(tree, pattern)",
        })

    def test_arguments_by_name(self):
        tree = tree_of(3)
        pattern = ["high", "found", "found"]
        self.assertIsNone(check_pattern(pattern=pattern, tree=tree))
        self.assertEqual(blocks(pattern=pattern, tree=tree), [2, 1])
        self.assertEqual(pattern_of(lengths=[2, 1], tree=tree), pattern)
        self.assertEqual(list_for(pattern=pattern, tree=tree), list_for(tree, pattern))
        self.assertEqual(count_patterns(tree=tree), 4)
        self.assertEqual(list(each_pattern(tree=tree)), list(each_pattern(tree)))

    def test_arguments_stay_as_they_were(self):
        for tree, lengths, pattern in CUTS[::9]:
            kept = copy.deepcopy((tree, lengths, pattern))
            for taker in TAKERS:
                taker(tree, pattern)
            pattern_of(tree, lengths)
            self.assertEqual((tree, lengths, pattern), kept)

    def test_results_are_new_lists(self):
        tree = tree_of(3)
        pattern = ["high", "found", "found"]
        for call in (lambda: blocks(tree, pattern), lambda: pattern_of(tree, [2, 1]), lambda: list_for(tree, pattern)):
            first = call()
            told = list(first)
            first.append("more")
            first[0] = "other"
            self.assertEqual(call(), told)
        self.assertEqual(pattern, ["high", "found", "found"])
        for function in (blocks, pattern_of, list_for):
            nothing = []
            function(None, nothing).append("more")
            self.assertEqual((nothing, function(None, nothing)), ([], []))

    def test_kinds_of_values(self):
        tree = tree_of(7)
        pattern = pattern_of(tree, [1, 4, 2])
        self.assertIs(check_pattern(tree, pattern), None)
        for row in (pattern, blocks(tree, pattern), list_for(tree, pattern)):
            self.assertIs(row.__class__, list)
        self.assertTrue(inspect.isgenerator(each_pattern(tree)))
        self.assertIs(count_patterns(tree).__class__, int)


class CheckTest(helper.Case):
    def test_no_nodes(self):
        self.assertIsNone(check_pattern(None, []))

    def test_one_node(self):
        tree = (None, None)
        self.assertIsNone(check_pattern(tree, ["found"]))
        for label in ("low", "high", "dead", "", "Found", "found ", "lost", "foun"):
            self.fails(lambda: check_pattern(tree, [label]), InvalidLabels, "node", 0)

    def test_each_list_of_labels_of_small_trees(self):
        for many, tree, possible in SMALL:
            nodes = helper.root_first(tree)
            ways = {node: [at for at, _ in helper.way_to(tree, node)] + [node] for node in nodes}
            for pattern in product(LABELS, repeat=many):
                # A label is possible with those above it, if some list has them all.
                wrong = [node for node in nodes if not
                         any(all(one[at] == pattern[at] for at in ways[node]) for one in possible)]
                self.assertEqual(pattern in possible, not wrong)
                for taker in TAKERS:
                    if wrong:
                        self.fails(lambda: taker(tree, list(pattern)), InvalidLabels, "node", wrong[0])
                    else:
                        taker(tree, list(pattern))

    def test_labels_of_lists_are_possible(self):
        for tree, _, pattern in CUTS:
            self.assertIsNone(check_pattern(tree, pattern))
        for tree, values in helper.samples()[::7]:
            self.assertIsNone(check_pattern(tree, labels(tree, values)))

    def test_another_label_makes_the_pattern_wrong_there_or_below(self):
        rng = random.Random(6)
        for tree, _, pattern in CUTS[::5]:
            nodes = helper.root_first(tree)
            place = rng.randrange(len(nodes))
            for label in LABELS + ("lost",):
                changed = list(pattern)
                changed[nodes[place]] = label
                try:
                    check_pattern(tree, changed)
                    self.assertEqual(shown_labels(tree, list_for(tree, changed)), changed)
                except InvalidLabels as error:
                    self.assertIn(error.node, nodes[place:])
                    self.assertNotEqual(label, pattern[nodes[place]])

    def test_the_left_part_comes_before_the_right_part(self):
        tree = tree_of(7)
        good = ["found"] * 7
        for wrong, told in (((3, 0), 3), ((0, 1, 2, 4), 1), ((0, 2, 5), 0), ((2, 5, 4), 2), ((6, 4), 4), ((5, 4), 5)):
            for label in ("dead", "lost", ""):
                pattern = [label if node in wrong else good[node] for node in range(7)]
                for taker in TAKERS:
                    self.fails(lambda: taker(tree, pattern), InvalidLabels, "node", told)

    def test_what_low_and_high_need(self):
        tree = tree_of(7)
        found = ["found"] * 7
        for node, label in ((3, "low"), (3, "high"), (1, "low"), (5, "high"), (0, "low"), (6, "high")):
            pattern = list(found)
            pattern[node] = label
            self.fails(lambda: check_pattern(tree, pattern), InvalidLabels, "node", node)
        for node, label in ((2, "low"), (2, "high"), (4, "low"), (4, "high"), (0, "high"), (6, "low")):
            pattern = list(found)
            pattern[node] = label
            self.assertIsNone(check_pattern(tree, pattern))
        # Node 2 lies right of node 1, but that one is not found.
        self.fails(lambda: check_pattern(tree, ["found", "high", "low"] + found[3:]), InvalidLabels, "node", 2)

    def test_what_must_be_dead(self):
        tree = tree_of(7)
        right = ["found", "found", "found", "found"]
        self.assertIsNone(check_pattern(tree, right + ["dead", "low", "found"]))
        self.fails(lambda: check_pattern(tree, right + ["found", "low", "found"]), InvalidLabels, "node", 4)
        self.fails(lambda: check_pattern(tree, right + ["low", "low", "found"]), InvalidLabels, "node", 4)
        self.fails(lambda: check_pattern(tree, right + ["dead", "low", "dead"]), InvalidLabels, "node", 6)
        self.fails(lambda: check_pattern(tree, right + ["found", "dead", "dead"]), InvalidLabels, "node", 5)
        # In both parts of a dead node all is dead.
        row = helper.row_left(1, helper.row_right(1, tree_of(3)))
        self.assertIsNone(check_pattern(row, ["high", "dead", "dead", "dead", "found"]))
        for node, label in product((1, 2, 3), ("found", "low", "high", "lost")):
            pattern = ["high", "dead", "dead", "dead", "found"]
            pattern[node] = label
            self.fails(lambda: check_pattern(row, pattern), InvalidLabels, "node", node)


class CountTest(unittest.TestCase):
    def test_no_nodes(self):
        self.assertEqual(count_patterns(None), 1)

    def test_as_many_as_small_trees_have(self):
        for many, tree, possible in SMALL:
            self.assertEqual(count_patterns(tree), len(possible))
            self.assertEqual(len(possible), 2 ** (many - 1) if many else 1)

    def test_any_shape_with_so_many_nodes(self):
        for tree in helper.larger_trees(random.Random(1)):
            self.assertEqual(count_patterns(tree), 2 ** (helper.numbered(tree)[1] - 1))
        self.assertEqual(count_patterns(tree_of(64)), 9223372036854775808)
        self.assertEqual(count_patterns(tree_of(100)), 2 ** 99)


class BlocksTest(unittest.TestCase):
    def test_no_nodes(self):
        self.assertEqual((blocks(None, []), pattern_of(None, [])), ([], []))

    def test_one_node(self):
        self.assertEqual((blocks((None, None), ["found"]), pattern_of((None, None), [1])), ([1], ["found"]))

    def test_blocks_and_patterns_of_lists_that_never_fall(self):
        for tree, lengths, pattern in CUTS:
            self.assertEqual(blocks(tree, pattern), lengths)
            self.assertEqual(pattern_of(tree, lengths), pattern)

    def test_blocks_of_lists_that_fall(self):
        for tree, values in helper.samples()[::5]:
            pattern = labels(tree, values)
            lengths = helper.run_lengths(representative(tree, values))
            self.assertEqual((blocks(tree, pattern), pattern_of(tree, lengths)), (lengths, pattern))

    def test_one_block_and_one_for_each_node(self):
        for tree in helper.larger_trees(random.Random(2)):
            many = helper.numbered(tree)[1]
            self.assertEqual(pattern_of(tree, [1] * many), ["found"] * many)
            pattern = pattern_of(tree, [many])
            self.assertEqual([node for node in range(many) if pattern[node] == "found"], [helper.numbered(tree)[0][0]])
            self.assertEqual(blocks(tree, pattern), [many])

    def test_each_block_holds_one_found_node_on_its_least_level(self):
        for tree, lengths, _ in CUTS:
            pattern = pattern_of(tree, lengths)
            first = 0
            for length in lengths:
                nodes = list(range(first, first + length))
                found = [node for node in nodes if pattern[node] == "found"]
                self.assertEqual(found, [min(nodes, key=lambda node: len(helper.way_to(tree, node)))])
                first += length

    def test_lists_have_the_same_labels_exactly_if_they_have_the_same_blocks(self):
        for many, tree, possible in SMALL:
            told = {tuple(blocks(tree, list(pattern))) for pattern in possible}
            self.assertEqual(told, {tuple(lengths) for lengths in helper.all_cuts(many)})
            self.assertEqual(len(told), len(possible))


class EachPatternTest(helper.Case):
    def test_no_nodes_and_one(self):
        self.assertEqual(list(each_pattern(None)), [[]])
        self.assertEqual(list(each_pattern((None, None))), [["found"]])

    def test_all_of_small_trees(self):
        for _, tree, possible in SMALL:
            self.assertEqual(list(each_pattern(tree)), sorted(map(list, possible)))

    def test_all_cuts_of_greater_trees(self):
        for many in (5, 6, 7):
            for tree in helper.all_trees(many)[::5] + helper.shaped_trees(many):
                told = sorted(shown_labels(tree, helper.spread(lengths)) for lengths in helper.all_cuts(many))
                self.assertEqual(list(each_pattern(tree)), told)

    def test_ten_nodes(self):
        for tree in helper.shaped_trees(10):
            rows = list(each_pattern(tree))
            self.assertEqual((len(rows), rows), (512, sorted(rows)))
            self.assertEqual(len({tuple(row) for row in rows}), 512)
            for row in rows:
                check_pattern(tree, row)

    def test_more_than_ten_nodes(self):
        for many in (11, 12, 40, 64):
            for tree in (tree_of(many), helper.row_right(many)):
                rows = each_pattern(tree)
                self.fails(lambda: next(rows), TooMany, "count", many)

    def test_errors_come_when_the_first_pattern_is_asked_for(self):
        for thing in helper.NO_TREES:
            rows = each_pattern(thing)
            self.fails(lambda: next(rows), InvalidTree)
        self.fails(lambda: list(each_pattern((tree_of(11), 0))), InvalidTree)
        self.fails(lambda: list(each_pattern(tree_of(11))), TooMany, "count", 11)

    def test_each_list_is_new(self):
        for tree in (None, (None, None), tree_of(6), helper.zigzag(5)):
            told = [list(row) for row in each_pattern(tree)]
            rows = []
            for row in each_pattern(tree):
                rows.append(list(row))
                row.reverse()
                row.append("more")
            self.assertEqual(rows, told)
            kept = list(each_pattern(tree))
            self.assertEqual(len({id(row) for row in kept}), len(kept))
            for row in kept:
                row.clear()
            self.assertEqual(list(each_pattern(tree)), told)

    def test_two_generators_do_not_disturb_each_other(self):
        tree = tree_of(5)
        told = list(each_pattern(tree))
        one, other = each_pattern(tree), each_pattern(tree)
        rows = []
        for first, second in zip(one, other):
            first.clear()
            rows.append(second)
        self.assertEqual(rows, told)


class ListForTest(unittest.TestCase):
    def test_no_nodes_and_one(self):
        self.assertEqual((list_for(None, []), list_for((None, None), ["found"])), ([], [0]))

    def test_all_found(self):
        for tree in helper.shaped_trees(9):
            self.assertEqual(list_for(tree, ["found"] * 9), list(range(9)))

    def test_the_list_has_the_pattern(self):
        for tree, _, pattern in CUTS:
            values = list_for(tree, pattern)
            self.assertEqual(sorted(values), list(range(len(pattern))))
            self.assertEqual(shown_labels(tree, values), pattern)
            self.assertEqual(list_for(copy.deepcopy(tree), list(pattern)), values)


class WrongInputTest(helper.Case):
    def test_no_trees(self):
        for thing in helper.NO_TREES:
            calls = [lambda: count_patterns(thing), lambda: pattern_of(thing, [1]), lambda: pattern_of(thing, None)]
            for taker in TAKERS:
                calls.extend([lambda taker=taker: taker(thing, ["found"]), lambda taker=taker: taker(thing, None)])
            for call in calls:
                with self.subTest(thing=thing):
                    self.fails(call, InvalidTree)

    def test_patterns_that_are_no_lists(self):
        for taker in TAKERS:
            for pattern in NO_LISTS:
                for many in (0, 3):
                    with self.subTest(pattern=pattern):
                        self.fails(lambda: taker(tree_of(many), pattern), InvalidLabels, "node", None)

    def test_patterns_of_a_wrong_length(self):
        for taker in TAKERS:
            for many in (0, 1, 2, 3, 64):
                for length in {many - 1, many + 1, 2 * many + 1} - {-1}:
                    self.fails(lambda: taker(tree_of(many), ["found"] * length), InvalidLabels, "node", None)
                    self.fails(lambda: taker(tree_of(many), ["lost"] * length), InvalidLabels, "node", None)

    def test_patterns_with_something_that_is_no_string(self):
        wrongs = [None, 0, 1, True, b"found", ["found"], ("found",), {"found": 1}, {"found"}, object(), helper.Same()]
        for taker in TAKERS:
            for wrong in wrongs:
                for node in range(3):
                    for rest in ("found", "lost", "dead"):
                        pattern = [rest] * 3
                        pattern[node] = wrong
                        self.fails(lambda: taker(tree_of(3), pattern), InvalidLabels, "node", None)

    def test_strings_that_are_no_labels(self):
        for taker in TAKERS:
            for wrong in ("", "Found", "FOUND", " found", "found\n", "gap", "upper", "left", "x" * 1000):
                for node in range(3):
                    pattern = ["found"] * 3
                    pattern[node] = wrong
                    self.fails(lambda: taker(tree_of(3), pattern), InvalidLabels, "node", node)

    def test_lengths_that_are_no_lists(self):
        for lengths in (None, 3, True, "3", b"3", (3,), (1, 2), {3: 1}, {3}, range(1, 3), iter([3]), object()):
            for many in (0, 3):
                with self.subTest(lengths=lengths):
                    self.fails(lambda: pattern_of(tree_of(many), lengths), InvalidBlocks)
        self.fails(lambda: pattern_of(None, ()), InvalidBlocks)

    def test_lengths_that_are_no_whole_numbers_from_1_on(self):
        for wrong in helper.NO_NUMBERS + [0, -1, -3]:
            for lengths in ([wrong], [3, wrong], [wrong, 3], [1, wrong, 2], [1, wrong, 1], [1, 1, wrong]):
                with self.subTest(lengths=lengths):
                    self.fails(lambda: pattern_of(tree_of(3), lengths), InvalidBlocks)
        # Sums that fit do not help.
        for lengths in ([4, -1], [-1, 4], [0, 3], [3, 0], [2, True], [True, True, True], [1, 0, 2], [1.0, 2]):
            self.fails(lambda: pattern_of(tree_of(3), lengths), InvalidBlocks)
        self.fails(lambda: pattern_of(None, [0]), InvalidBlocks)

    def test_lengths_with_another_sum(self):
        for lengths in ([], [2], [4], [1, 1], [1, 1, 2], [1, 1, 1, 1], [10 ** 5000], [3, 3]):
            self.fails(lambda: pattern_of(tree_of(3), lengths), InvalidBlocks)
        self.fails(lambda: pattern_of(None, [1]), InvalidBlocks)
        self.fails(lambda: pattern_of((None, None), []), InvalidBlocks)

    def test_the_tree_is_examined_first(self):
        for taker in TAKERS:
            self.fails(lambda: taker((None,), ("found",)), InvalidTree)
        self.fails(lambda: pattern_of((None,), (1,)), InvalidTree)

    def test_bases(self):
        for call in (lambda: check_pattern(None, ["found"]), lambda: pattern_of(None, [1]),
                     lambda: next(each_pattern(tree_of(11))), lambda: count_patterns(0)):
            with self.assertRaises(ValueError):
                call()


class BoundsTest(unittest.TestCase):
    def test_every_call_ends_within_seconds(self):
        shapes = helper.shaped_trees(64) + [helper.row_left(9, helper.row_right(10, helper.halved([0] * 45, "lower")))]
        for tree in shapes:
            for lengths in ([64], [1] * 64, [2] * 32, [20, 24, 20]):
                pattern = pattern_of(tree, lengths)
                for call in (lambda: pattern_of(tree, lengths), lambda: blocks(tree, pattern),
                             lambda: list_for(tree, pattern), lambda: count_patterns(tree)):
                    begun = time.monotonic()
                    call()
                    self.assertLess(time.monotonic() - begun, 3)

    def test_trees_beyond_the_bounds_raise_no_error(self):
        tree = helper.zigzag(150)
        pattern = pattern_of(tree, [70, 1, 79])
        self.assertEqual(blocks(tree, pattern), [70, 1, 79])
        self.assertEqual(labels(tree, list_for(tree, pattern)), pattern)


if __name__ == "__main__":
    unittest.main()
