"""What the document promises over the whole program, held against each function of the interface."""

import copy
import importlib
import inspect
import random
import time
import unittest
from itertools import product

from halfsearch import alike, chances, errors, goals, kinds, patterns, searching, shapes, text, wishes
from tests import helper

TREE = helper.halved([0] * 7, "upper")
SEVEN = [5, 2, 9, 4, 1, 7, 6]
PATTERN = ["high", "found", "high", "found", "low", "found", "low"]

# Each function of the interface with arguments that fit, by their names.
CALLS = [
    (shapes.tree_of, {"length": 7, "rule": "lower"}),
    (shapes.size, {"tree": TREE}),
    (shapes.path, {"tree": TREE, "node": 2}),
    (shapes.levels, {"tree": TREE}),
    (searching.find, {"tree": TREE, "values": SEVEN, "twice": 9}),
    (searching.interval, {"tree": TREE, "values": SEVEN, "node": 2}),
    (searching.looked, {"tree": TREE, "values": SEVEN, "twice": 9}),
    (searching.labels, {"tree": TREE, "values": SEVEN}),
    (searching.found, {"tree": TREE, "values": SEVEN}),
    (searching.steps, {"tree": TREE, "values": SEVEN}),
    (searching.witness, {"tree": TREE, "values": SEVEN, "node": 0}),
    (searching.insertion, {"tree": TREE, "values": SEVEN, "twice": 8, "side": "right"}),
    (alike.alike, {"tree": TREE, "values": SEVEN, "other": SEVEN[::-1]}),
    (alike.breaking, {"tree": TREE, "values": SEVEN, "other": SEVEN[::-1]}),
    (alike.count_alike, {"tree": TREE, "values": SEVEN, "least": 0, "most": 9}),
    (alike.representative, {"tree": TREE, "values": SEVEN}),
    (patterns.check_pattern, {"tree": TREE, "pattern": PATTERN}),
    (patterns.count_patterns, {"tree": TREE}),
    (patterns.blocks, {"tree": TREE, "pattern": PATTERN}),
    (patterns.pattern_of, {"tree": TREE, "lengths": [1, 4, 2]}),
    (patterns.list_for, {"tree": TREE, "pattern": PATTERN}),
    (chances.chance_found, {"tree": TREE, "node": 2}),
    (chances.average_found, {"tree": TREE}),
    (chances.count_found, {"tree": TREE}),
    (chances.count_labels, {"tree": TREE, "pattern": PATTERN}),
    (wishes.required, {"tree": TREE, "wished": [0, 4]}),
    (wishes.distance, {"tree": TREE, "wished": [0, 4], "one": 0, "other": 5}),
    (wishes.can_keep, {"tree": TREE, "values": SEVEN, "wished": [0, 4], "kept": [1, 3]}),
    (wishes.repair, {"tree": TREE, "values": SEVEN, "wished": [0, 4]}),
    (wishes.repaired, {"tree": TREE, "values": SEVEN, "wished": [0, 4]}),
    (wishes.are_chains, {"tree": TREE, "values": SEVEN, "wished": [0], "thing": [[0, 1], [3]]}),
    (goals.tree_for, {"values": [3, 1, 2], "goal": [1, 1, 2]}),
    (goals.most_found, {"values": SEVEN}),
    (goals.are_rows, {"values": [3, 1, 2], "thing": [[0, 1], [2]]}),
    (goals.hidden_by, {"values": SEVEN, "node": 3}),
    (text.format_list, {"tree": TREE, "values": SEVEN}),
    (text.parse_list, {"text": "0 3 high\n1 -1 found"}),
]

# Each argument for which an error is stated with a wrong value, the error and its field; they are raised in the
# order in which the arguments stand, and the tree of seven nodes is the only right one.
WRONG = {
    "tree": ((None,), errors.InvalidTree, {}),
    "values": ([5, 2, 9, 4, 1, 7, True], errors.InvalidValues, {"node": 6}),
    "wished": ([0, 4, 7], errors.UnknownNode, {"node": 7}),
    "node": (8, errors.UnknownNode, {"node": 8}),
    "one": (2, errors.UnknownNode, {"node": 2}),
    "other": (6, errors.UnknownNode, {"node": 6}),
    "pattern": (PATTERN[1:], errors.InvalidLabels, {"node": None}),
    "lengths": ([1, 4, 1], errors.InvalidBlocks, {}),
    "rule": ("left", errors.UnknownRule, {"name": "left"}),
    "side": ("upper", errors.UnknownSide, {"name": "upper"}),
    "text": ("0 3 high\n", errors.InvalidText, {"line": 2}),
}

# Arguments that may be any value, and those that stand for none of which an error is stated.
WITHOUT_ERROR = {"thing", "kept", "goal", "twice", "length", "least", "most"}

INTERFACE = {
    "shapes": ["tree_of", "size", "path", "levels"],
    "searching": ["find", "interval", "looked", "labels", "found", "steps", "witness", "insertion"],
    "alike": ["alike", "breaking", "count_alike", "representative"],
    "patterns": ["check_pattern", "count_patterns", "blocks", "pattern_of", "each_pattern", "list_for"],
    "chances": ["chance_found", "average_found", "count_found", "count_labels"],
    "wishes": ["required", "distance", "can_keep", "repair", "repaired", "are_chains"],
    "goals": ["tree_for", "most_found", "are_rows", "hidden_by"],
    "kinds": ["SearchList", "LowerList"],
    "text": ["format_list", "parse_list"],
    "errors": ["InvalidTree", "NothingToUndo", "InvalidValues", "InvalidLabels", "InvalidBlocks", "UnknownNode",
               "UnknownRule", "UnknownSide", "TooMany", "InvalidText"],
}


def by_position(function, named):
    """A call of a function that passes by position what may be passed so."""
    kept = {name: named[name] for name, parameter in inspect.signature(function).parameters.items()
            if parameter.kind is inspect.Parameter.KEYWORD_ONLY}
    placed = [named[name] for name in inspect.signature(function).parameters if name not in kept]
    return function(*placed, **kept)


def wrong_value(function, name):
    """The wrong value of an argument, the error and its field."""
    if function.__module__ == "halfsearch.alike" and name == "other":
        return ([1, 2], errors.InvalidValues, {"node": None})
    return WRONG[name]


class InterfaceTest(unittest.TestCase):
    def test_each_name_is_defined_in_its_file(self):
        for file, names in INTERFACE.items():
            module = importlib.import_module("halfsearch." + file)
            for name in names:
                self.assertEqual(getattr(module, name).__module__, module.__name__)

    def test_each_function_is_called_here(self):
        told = {(function.__module__, function.__name__) for function, _ in CALLS}
        told.add(("halfsearch.patterns", "each_pattern"))
        functions = {("halfsearch." + file, name) for file, names in INTERFACE.items() for name in names
                     if file not in ("errors", "kinds")}
        self.assertEqual(told, functions)

    def test_arguments_by_name_and_by_position(self):
        for function, named in CALLS:
            self.assertEqual(set(named), set(inspect.signature(function).parameters))
            self.assertEqual(function(**named), by_position(function, named))


class RulesTest(helper.Case):
    def test_results_are_new_and_arguments_stay(self):
        for function, named in CALLS:
            with self.subTest(function=function.__name__):
                self.gives_new(lambda *given: function(**dict(zip(named, given))), *named.values())

    def test_what_is_returned_may_be_passed_in_again(self):
        rng = random.Random(21)
        for tree in helper.larger_trees(rng)[::4]:
            many = shapes.size(tree)
            values = rng.sample(range(many), many)
            pattern = searching.labels(tree, values)
            self.assertEqual(searching.labels(tree, patterns.list_for(tree, pattern)), pattern)
            self.assertEqual(patterns.pattern_of(tree, patterns.blocks(tree, pattern)), pattern)
            self.assertEqual(text.parse_list(text.format_list(tree, values)), (values, pattern))
            row = alike.representative(tree, values)
            self.assertEqual(alike.representative(goals.tree_for(values, row), values), row)
            better, rows = goals.most_found(values)
            self.assertEqual(len(searching.found(better, values)), len(rows))
            for nodes in shapes.levels(better):
                repaired = wishes.repaired(better, values, nodes)
                self.assertLessEqual(set(nodes), set(searching.found(better, repaired)))
                self.assertTrue(wishes.are_chains(better, values, nodes, wishes.repair(better, values, nodes)[1]))
            box = kinds.SearchList.of(row)
            self.assertEqual((box.labels, box.found), (searching.labels(box.tree, row), searching.found(box.tree, row)))

    def test_the_first_error_that_applies_is_raised(self):
        for function, named in CALLS:
            names = [name for name in named if name not in WITHOUT_ERROR]
            for chosen in product((False, True), repeat=len(names)):
                wrong = [name for name, choice in zip(names, chosen) if choice]
                if wrong:
                    given = dict(named)
                    given.update({name: wrong_value(function, name)[0] for name in wrong})
                    _, kind, fields = wrong_value(function, wrong[0])
                    if "thing" in given:
                        given["thing"] = None
                    kept = copy.deepcopy(given)
                    with self.subTest(function=function.__name__, wrong=wrong):
                        with self.assertRaises(kind) as caught:
                            function(**given)
                        self.assertEqual(vars(caught.exception), fields)
                        self.assertEqual(given, kept)

    def test_an_error_leaves_nothing_behind(self):
        for function, named in CALLS:
            told = function(**named)
            for name in named:
                if name not in WITHOUT_ERROR:
                    with self.assertRaises((ValueError, LookupError)):
                        function(**{**named, name: wrong_value(function, name)[0]})
            self.assertEqual(function(**named), told)


class BoundsTest(unittest.TestCase):
    def test_every_call_ends_within_seconds(self):
        rng = random.Random(22)
        deep = helper.row_left(9, helper.row_right(10, helper.halved([0] * 45, "lower")))
        for tree in helper.shaped_trees(64)[:2] + [helper.uneven(64), deep, helper.random_tree(rng, 64)]:
            values = [rng.choice((-1, 1)) * (helper.GREAT - rng.randrange(40)) for _ in range(64)]
            pattern = searching.labels(tree, values)
            more = {"tree": tree, "values": values, "other": values[::-1], "pattern": pattern, "wished": list(range(64)),
                    "lengths": [1] * 64, "least": -helper.GREAT, "most": helper.GREAT, "goal": sorted(values),
                    "twice": 2 * helper.GREAT + 1, "text": text.format_list(tree, values), "length": 64,
                    "thing": [[node] for node in range(64)], "kept": list(range(64))}
            for function, named in CALLS:
                if function is not chances.count_found:
                    given = {name: more.get(name, value) for name, value in named.items()}
                    if function is wishes.distance:
                        given["other"] = 63
                    begun = time.monotonic()
                    function(**given)
                    self.assertLess(time.monotonic() - begun, 3, function.__name__)

    def test_calls_with_bounds_of_their_own_end_within_seconds(self):
        for shape in range(6):
            begun = time.monotonic()
            self.assertEqual(sum(chances.count_found(helper.shaped_trees(12)[shape])), 479001600)
            self.assertEqual(len(list(patterns.each_pattern(helper.shaped_trees(10)[shape]))), 512)
            self.assertLess(time.monotonic() - begun, 6)


if __name__ == "__main__":
    unittest.main()
