import copy
import time
import unittest
from fractions import Fraction

from halfsearch import searching
from halfsearch.errors import InvalidTree, InvalidValues, UnknownNode, UnknownSide
from halfsearch.searching import find, found, insertion, interval, labels, looked, steps, witness
from halfsearch.shapes import path, tree_of
from tests import helper

SAMPLES = helper.samples()
SHOWN = [helper.Shown(tree, values) for tree, values in SAMPLES]
SEVEN = [5, 2, 9, 4, 1, 7, 6]

# Each function as a call with a tree, values and otherwise fitting arguments.
CALLS = {
    "find": lambda tree, values: find(tree, values, 3),
    "interval": lambda tree, values: interval(tree, values, 0),
    "looked": lambda tree, values: looked(tree, values, 3),
    "labels": labels,
    "found": found,
    "steps": steps,
    "witness": lambda tree, values: witness(tree, values, 0),
    "insertion": lambda tree, values: insertion(tree, values, 3),
}


def doubled(number):
    """A number as the functions take it."""
    return int(2 * number)


class InterfaceTest(helper.Case):
    def test_functions_and_their_parameters(self):
        told = {
            "find": "(tree, values, twice)",
            "interval": "(tree, values, node)",
            "looked": "(tree, values, twice)",
            "labels": "(tree, values)",
            "found": "(tree, values)",
            "steps": "(tree, values)",
            "witness": "(tree, values, node)",
            "insertion": "(tree, values, twice, *, side='left')",
        }
        self.check_interface(searching, told)

    def test_arguments_by_name(self):
        tree = tree_of(7)
        for name, argument in (("find", "twice"), ("looked", "twice"), ("insertion", "twice"),
                               ("interval", "node"), ("witness", "node")):
            function = getattr(searching, name)
            named = {argument: 6, "values": SEVEN, "tree": tree}
            self.assertEqual(function(**named), function(tree, SEVEN, 6))
        for name in ("labels", "found", "steps"):
            function = getattr(searching, name)
            self.assertEqual(function(values=SEVEN, tree=tree), function(tree, SEVEN))

    def test_the_side_is_passed_by_keyword_only(self):
        with self.assertRaises(TypeError):
            insertion(tree_of(7), SEVEN, 8, "right")

    def test_arguments_stay_as_they_were(self):
        for tree, values in SAMPLES[::7]:
            kept = copy.deepcopy((tree, values))
            for name, call in CALLS.items():
                if values or name not in ("interval", "witness"):
                    call(tree, values)
                    self.assertEqual((tree, values), kept, name)

    def test_results_are_new_lists(self):
        tree = tree_of(7)
        for name in ("looked", "labels", "found", "steps"):
            values = list(SEVEN)
            first = CALLS[name](tree, values)
            told = list(first)
            first.append("more")
            first[0] = "other"
            self.assertEqual(CALLS[name](tree, values), told, name)
            self.assertEqual(values, SEVEN)

    def test_equal_calls_give_equal_results(self):
        for tree, values in SAMPLES[::11]:
            if values:
                for call in CALLS.values():
                    self.assertEqual(call(tree, values), call(copy.deepcopy(tree), list(values)))

    def test_kinds_of_values(self):
        tree = tree_of(7)
        self.assertIsInstance(find(tree, SEVEN, 8), tuple)
        self.assertIsInstance(interval(tree, SEVEN, 0), tuple)
        for row in (looked(tree, SEVEN, 8), labels(tree, SEVEN), found(tree, SEVEN), steps(tree, SEVEN)):
            self.assertIsInstance(row, list)
        self.assertEqual({step.__class__ for step in steps(tree, SEVEN)}, {tuple})


class ByHandTest(unittest.TestCase):
    def test_no_nodes(self):
        for twice in (-3, 0, 5):
            self.assertEqual((find(None, [], twice), looked(None, [], twice)), (("gap", 0), []))
            self.assertEqual([insertion(None, [], twice, side=side) for side in ("left", "right")], [0, 0])
        self.assertEqual((labels(None, []), found(None, [])), ([], []))
        self.assertEqual(steps(None, []), [("gap", None, None, 0)])

    def test_one_node(self):
        tree = (None, None)
        self.assertEqual([find(tree, [3], twice) for twice in (5, 6, 7)], [("gap", 0), ("found", 0), ("gap", 1)])
        self.assertEqual([looked(tree, [3], twice) for twice in (5, 6, 7)], [[0], [0], [0]])
        self.assertEqual([insertion(tree, [3], twice) for twice in (5, 6, 7)], [0, 0, 1])
        self.assertEqual([insertion(tree, [3], twice, side="right") for twice in (5, 6, 7)], [0, 1, 1])
        self.assertEqual((interval(tree, [3], 0), witness(tree, [3], 0)), ((None, None), None))
        self.assertEqual((labels(tree, [3]), found(tree, [3])), (["found"], [0]))
        self.assertEqual(steps(tree, [3]), [("gap", None, 3, 0), ("found", 3, 0), ("gap", 3, None, 1)])

    def test_seven_nodes(self):
        tree = tree_of(7)
        self.assertEqual(looked(tree, SEVEN, 8), [3])
        self.assertEqual(looked(tree, SEVEN, 9), [3, 5, 4])
        self.assertEqual(looked(tree, SEVEN, 3), [3, 1, 0])
        self.assertEqual(found(tree, SEVEN), [1, 3, 5])
        told = [(None, 2), (None, 4), (2, 4), (None, None), (4, 7), (4, None), (7, None)]
        self.assertEqual([interval(tree, SEVEN, node) for node in range(7)], told)
        self.assertEqual([witness(tree, SEVEN, node) for node in range(7)], [3, None, 3, None, 3, None, 5])

    def test_dead_nodes(self):
        tree = ((((None, None), None), None), (None, (None, None)))
        values = [3, 8, 9, 5, 1, 6]
        self.assertEqual(labels(tree, values), ["found", "high", "high", "found", "low", "found"])
        values = [9, 2, 1, 4, 5, 3]
        self.assertEqual(labels(tree_of(6), values), ["high", "found", "low", "found", "dead", "low"])
        self.assertEqual([interval(tree_of(6), values, node) for node in (4, 5)], [None, (4, None)])
        self.assertEqual(witness(tree_of(6), values, 4), 5)

    def test_an_equal_ancestor_is_a_witness(self):
        self.assertEqual([witness(tree_of(3), [4, 4, 4], node) for node in range(3)], [1, None, 1])
        self.assertEqual(labels(tree_of(3), [4, 4, 4]), ["high", "found", "low"])

    def test_the_witness_is_the_first_such_ancestor(self):
        self.assertEqual(witness(helper.row_left(4), [9, 8, 7, 6], 0), 3)
        self.assertEqual(witness(helper.row_left(4), [3, 3, 7, 8], 0), 1)

    def test_bounds_may_touch_without_a_whole_number_between(self):
        table = [("gap", None, 3, 0), ("found", 3, 0), ("gap", 3, 4, 1), ("found", 4, 1), ("gap", 4, None, 2)]
        self.assertEqual(steps(tree_of(2), [3, 4]), table)
        self.assertEqual(interval(((None, (None, None)), None), [3, 9, 4], 1), (3, 4))
        self.assertEqual(labels(((None, (None, None)), None), [3, 9, 4]), ["found", "high", "found"])

    def test_great_values(self):
        top = helper.GREAT
        tree = tree_of(3)
        self.assertEqual(find(tree, [-top, 0, top], 2 * top), ("found", 2))
        self.assertEqual(find(tree, [-top, 0, top], 2 * top - 1), ("gap", 2))
        self.assertEqual(find(tree, [-top, 0, top], 1 - 2 * top), ("gap", 1))
        self.assertEqual(interval(tree, [-top, top, top - 1], 0), (None, top))
        self.assertEqual(found(tree, [top - 2, top - 1, top]), [0, 1, 2])


class AgainstSearchesTest(unittest.TestCase):
    def test_find_and_looked(self):
        for shown in SHOWN:
            for number, (way, end) in zip(shown.probes, shown.sent):
                twice = doubled(number)
                self.assertEqual(find(shown.tree, shown.values, twice), end)
                self.assertEqual(looked(shown.tree, shown.values, twice), [step[0] for step in way])

    def test_find_far_below_and_above_all_values(self):
        for tree, values in SAMPLES:
            for number in (-2 * helper.GREAT, 2 * helper.GREAT):
                self.assertEqual(find(tree, values, 2 * number), helper.send(tree, values, Fraction(number))[1])

    def test_labels_and_found(self):
        for shown in SHOWN:
            self.assertEqual(labels(shown.tree, shown.values), shown.labels())
            self.assertEqual(found(shown.tree, shown.values), shown.found())

    def test_interval(self):
        for shown in SHOWN:
            for node in range(len(shown.values)):
                self.assertEqual(interval(shown.tree, shown.values, node), shown.interval(node))

    def test_steps(self):
        for shown in SHOWN:
            self.assertEqual(steps(shown.tree, shown.values), shown.steps())

    def test_witness(self):
        for shown in SHOWN:
            for node in range(len(shown.values)):
                self.assertEqual(witness(shown.tree, shown.values, node), shown.witness(node))

    def test_insertion(self):
        for shown in SHOWN:
            for number in shown.probes:
                for side in ("left", "right"):
                    told = insertion(shown.tree, shown.values, doubled(number), side=side)
                    self.assertEqual(told, shown.insertion(number, side))

    def test_the_left_side_is_the_default(self):
        for shown in SHOWN:
            for twice in map(doubled, shown.probes):
                told = insertion(shown.tree, shown.values, twice, side="left")
                self.assertEqual(insertion(shown.tree, shown.values, twice), told)


class PromisesTest(unittest.TestCase):
    def test_values_that_are_found_rise(self):
        for tree, values in SAMPLES:
            told = [values[node] for node in found(tree, values)]
            self.assertEqual(told, sorted(set(told)))

    def test_parts_of_low_and_high_nodes(self):
        for tree, values in SAMPLES:
            told = labels(tree, values)
            for node in range(len(values)):
                for ancestor, side in path(tree, node):
                    if (told[ancestor], side) in (("low", "left"), ("high", "right")) or told[ancestor] == "dead":
                        self.assertEqual((told[node], interval(tree, values, node)), ("dead", None))
                if path(tree, node):
                    ancestor, side = path(tree, node)[-1]
                    if (told[ancestor], side) in (("low", "right"), ("high", "left")):
                        self.assertEqual(interval(tree, values, node), interval(tree, values, ancestor))

    def test_an_element_without_a_witness_is_found(self):
        for tree, values in SAMPLES:
            told = [node for node in range(len(values)) if witness(tree, values, node) is None]
            self.assertEqual(told, found(tree, values))

    def test_each_list_is_searched_like_one_list_that_never_falls(self):
        for many in range(5):
            for tree in helper.all_trees(many):
                classes = {}
                for values in helper.all_lists(many, 4):
                    rows = classes.setdefault(repr(steps(tree, values)), [])
                    if not helper.falls(values):
                        rows.append(values)
                self.assertEqual({len(rows) for rows in classes.values()}, {1})

    def test_the_number_of_possible_patterns(self):
        for many in range(1, 5):
            for tree in helper.all_trees(many):
                told = {tuple(labels(tree, values)) for values in helper.all_lists(many, many)}
                self.assertEqual(len(told), 2 ** (many - 1))

    def test_a_greater_number_has_no_smaller_insertion_index(self):
        for shown in SHOWN:
            for side in ("left", "right"):
                told = [insertion(shown.tree, shown.values, doubled(number), side=side) for number in shown.probes]
                self.assertEqual(told, sorted(told))

    def test_the_sides_differ_exactly_for_numbers_that_are_found(self):
        for shown in SHOWN:
            for twice in map(doubled, shown.probes):
                left, right = [insertion(shown.tree, shown.values, twice, side=side) for side in ("left", "right")]
                self.assertLessEqual(left, right)
                self.assertEqual(left < right, find(shown.tree, shown.values, twice)[0] == "found")

    def test_the_values_beside_an_insertion_index(self):
        for shown in SHOWN:
            values = shown.values
            for number in shown.probes:
                left, right = [insertion(shown.tree, values, doubled(number), side=side) for side in ("left", "right")]
                self.assertTrue(left == 0 or values[left - 1] < number)
                self.assertTrue(left == len(values) or values[left] >= number)
                self.assertTrue(right == 0 or values[right - 1] <= number)
                self.assertTrue(right == len(values) or values[right] > number)

    def test_insertions_neither_make_nor_mend_a_fall(self):
        for shown in SHOWN:
            for number in shown.probes[1::3]:
                for side in ("left", "right"):
                    at = insertion(shown.tree, shown.values, doubled(number), side=side)
                    longer = shown.values[:at] + [number] + shown.values[at:]
                    self.assertEqual(helper.falls(longer), helper.falls(shown.values))

    def test_insertion_counts_in_the_list_that_never_falls(self):
        for tree in helper.all_trees(4):
            never = {repr(steps(tree, row)): row for row in helper.all_lists(4, 4) if not helper.falls(row)}
            for values in helper.all_lists(4, 4):
                row = never[repr(steps(tree, values))]
                for twice in range(-1, 8):
                    less = sum(1 for value in row if 2 * value < twice)
                    most = sum(1 for value in row if 2 * value <= twice)
                    self.assertEqual(insertion(tree, values, twice), less)
                    self.assertEqual(insertion(tree, values, twice, side="right"), most)


class WrongInputTest(helper.Case):
    def test_no_trees(self):
        for thing in helper.NO_TREES:
            for name, call in CALLS.items():
                with self.subTest(thing=thing, name=name):
                    self.fails(lambda: call(thing, [1]), InvalidTree)

    def test_no_lists(self):
        for values in (None, 3, True, "123", b"123", (1, 2, 3), {0: 1, 1: 2, 2: 3}, {1, 2, 3}, range(3), object()):
            for name, call in CALLS.items():
                with self.subTest(values=values, name=name):
                    self.fails(lambda: call(tree_of(3), values), InvalidValues, "node", None)

    def test_lists_of_the_wrong_length(self):
        for many, values in ((0, [1]), (1, []), (1, [1, 2]), (3, [1, 2]), (3, [1, 2, 3, 4]), (3, [None] * 4)):
            for name, call in CALLS.items():
                with self.subTest(many=many, values=values, name=name):
                    self.fails(lambda: call(tree_of(many), values), InvalidValues, "node", None)

    def test_values_that_are_no_whole_numbers(self):
        for wrong in helper.NO_NUMBERS:
            for node in range(4):
                values = [5, 6, 7, 8]
                values[node] = wrong
                for name, call in CALLS.items():
                    with self.subTest(wrong=wrong, node=node, name=name):
                        self.fails(lambda: call(tree_of(4), values), InvalidValues, "node", node)

    def test_the_first_wrong_value_is_told(self):
        for name, call in CALLS.items():
            with self.subTest(name=name):
                self.fails(lambda: call(tree_of(4), [5, True, "x", None]), InvalidValues, "node", 1)

    def test_no_nodes_of_the_tree(self):
        for function in (interval, witness):
            for node in [-1, -3, 3, 4, 64, 10 ** 5000, helper.Same()] + helper.NO_NUMBERS:
                with self.subTest(kind=node.__class__):
                    self.fails(lambda: function(tree_of(3), [1, 2, 3], node), UnknownNode, "node", node)
            for node in (0, -1, None):
                self.fails(lambda: function(None, [], node), UnknownNode, "node", node)

    def test_unknown_sides(self):
        for side in helper.NO_NAMES + ["upper", "found", helper.Same()]:
            for tree, values in ((None, []), (tree_of(3), [1, 2, 3])):
                with self.subTest(kind=side.__class__):
                    self.fails(lambda: insertion(tree, values, 4, side=side), UnknownSide, "name", side)

    def test_the_end_of_a_search_is_no_side(self):
        self.fails(lambda: insertion(tree_of(3), [1, 2, 3], 4, side="end"), UnknownSide, "name", "end")

    def test_the_tree_is_examined_first(self):
        for function in (interval, witness):
            self.fails(lambda: function((None,), [True], 7), InvalidTree)
        self.fails(lambda: insertion((None,), [True], 7, side=3), InvalidTree)

    def test_the_values_are_examined_before_nodes_and_sides(self):
        for function in (interval, witness):
            self.fails(lambda: function((None, None), [True], 7), InvalidValues, "node", 0)
            self.fails(lambda: function((None, None), [], 7), InvalidValues, "node", None)
        self.fails(lambda: insertion((None, None), [True], 7, side=3), InvalidValues, "node", 0)
        self.fails(lambda: insertion((None, None), (1,), 7, side=3), InvalidValues, "node", None)


class BoundsTest(unittest.TestCase):
    def test_every_call_ends_within_seconds(self):
        shapes = helper.shaped_trees(64) + [helper.row_left(9, helper.row_right(10, helper.halved([0] * 45, "lower")))]
        for tree in shapes:
            values = [helper.GREAT - at for at in range(64)]
            for row in (values, values[::-1]):
                for name, call in CALLS.items():
                    begun = time.monotonic()
                    call(tree, row)
                    self.assertLess(time.monotonic() - begun, 3, name)

    def test_trees_and_values_beyond_the_bounds_raise_no_error(self):
        tree = helper.row_right(200)
        values = [10 ** 30 + at for at in range(200)]
        self.assertEqual(found(tree, values), list(range(200)))
        self.assertEqual(looked(tree, values, 2 * values[-1]), list(range(200)))
        self.assertEqual(insertion(tree, values, 4 * 10 ** 30), 200)


if __name__ == "__main__":
    unittest.main()
