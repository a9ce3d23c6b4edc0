import copy
import random
import time
import unittest
from fractions import Fraction
from functools import lru_cache

from halfsearch import alike as module
from halfsearch.alike import alike, breaking, count_alike, representative
from halfsearch.errors import InvalidTree, InvalidValues
from halfsearch.searching import find, found, insertion, interval, labels, steps
from halfsearch.shapes import tree_of
from tests import helper

GREAT = helper.GREAT
SEVEN = [5, 2, 9, 4, 1, 7, 6]
SMALL = [(many, tree) for many in range(4) for tree in helper.all_trees(many)]

# Each function as a call with a tree, values and otherwise fitting arguments.
CALLS = {
    "alike": lambda tree, values: alike(tree, values, list(values)),
    "breaking": lambda tree, values: breaking(tree, values, list(values)),
    "count_alike": lambda tree, values: count_alike(tree, values, -3, 9),
    "representative": representative,
}


@lru_cache(maxsize=None)
def ends(tree, values, least, most):
    """How the searches for all whole and half numbers from `least` to `most` end, in rising order."""
    return [helper.send(tree, values, Fraction(twice, 2))[1] for twice in range(2 * least, 2 * most + 1)]


def all_ends(tree, values):
    """The ends of all searches that matter in a list of small values."""
    return ends(tree, tuple(values), -2, 6)


def allowed(shown, node):
    """The least and the greatest value that acts like the one that the node has, as its label says."""
    label = shown.label(node)
    if label == "dead":
        return None, None
    if label == "found":
        return shown.values[node], shown.values[node]
    low, high = shown.interval(node)
    return (None, int(low)) if label == "low" else (int(high), None)


def like(rng, shown):
    """A list that acts like another one, each value changed as its label allows."""
    row = []
    for node in range(len(shown.values)):
        low, high = allowed(shown, node)
        if low is None and high is None:
            row.append(rng.choice(shown.values + [-GREAT, GREAT, 0, 1]))
        elif low is None:
            row.append(high - rng.choice([0, 0, 1, 5, 10 ** 6]))
        elif high is None:
            row.append(low + rng.choice([0, 0, 1, 5, 10 ** 6]))
        else:
            row.append(low)
    return row


def bent(rng, values):
    """A list that differs from another one at up to three nodes, mostly by little."""
    row = list(values)
    for _ in range(rng.randint(1, 3)):
        at = rng.randrange(len(row))
        row[at] = rng.choice([row[at] - 1, row[at] + 1, rng.choice(values), rng.choice(values) + 1, -GREAT, GREAT])
    return row


def made_pairs():
    """Greater trees, each with a list as it shows itself and another list of the same tree."""
    rng = random.Random(12)
    rows = []
    for tree in helper.larger_trees(rng):
        many = helper.numbered(tree)[1]
        lists = helper.shaped_lists(rng, many)
        for values in rng.sample(lists, 4):
            shown = helper.Shown(tree, values)
            others = [like(rng, shown), bent(rng, values), bent(rng, like(rng, shown)), rng.choice(lists)]
            rows.extend((shown, other) for other in others)
    return rows


PAIRS = made_pairs()


def least_apart(tree, values, other):
    """The least number, doubled, whose searches end differently, or None."""
    for number in helper.probes(values + other):
        if helper.send(tree, values, number)[1] != helper.send(tree, other, number)[1]:
            return int(2 * number)
    return None


def answer(twice):
    return ("alike",) if twice is None else ("apart", twice)


class InterfaceTest(helper.Case):
    def test_functions_and_their_parameters(self):
        self.check_interface(module, {
            "alike": "(tree, values, other)",
            "breaking": "(tree, values, other)",
            "count_alike": "(tree, values, least, most)",
            "representative": "(tree, values)",
        })

    def test_arguments_by_name(self):
        tree = tree_of(7)
        other = [5, 3, 9, 4, 1, 7, 6]
        self.assertEqual(alike(other=other, values=SEVEN, tree=tree), alike(tree, SEVEN, other))
        self.assertEqual(alike(tree, other=SEVEN, values=other), alike(tree, other, SEVEN))
        self.assertEqual(breaking(other=other, values=SEVEN, tree=tree), [1])
        self.assertEqual(count_alike(most=9, least=1, values=SEVEN, tree=tree), count_alike(tree, SEVEN, 1, 9))
        self.assertEqual(representative(values=SEVEN, tree=tree), representative(tree, SEVEN))

    def test_arguments_stay_as_they_were(self):
        for shown, other in PAIRS[::5]:
            tree, values = shown.tree, shown.values
            kept = copy.deepcopy((tree, values, other))
            alike(tree, values, other)
            breaking(tree, values, other)
            count_alike(tree, values, -2, 8)
            representative(tree, values)
            self.assertEqual((tree, values, other), kept)

    def test_results_are_new_lists(self):
        tree = tree_of(7)
        rising = list(range(7))
        row = representative(tree, rising)
        self.assertIsNot(row, rising)
        row.clear()
        self.assertEqual((representative(tree, rising), rising), (list(range(7)), list(range(7))))
        nodes = breaking(tree, rising, SEVEN)
        told = list(nodes)
        nodes.append("more")
        self.assertEqual(breaking(tree, rising, SEVEN), told)

    def test_the_same_list_may_be_passed_twice(self):
        for shown, _ in PAIRS[::4]:
            self.assertEqual(alike(shown.tree, shown.values, shown.values), ("alike",))
            self.assertEqual(breaking(shown.tree, shown.values, shown.values), [])

    def test_kinds_of_values(self):
        tree = tree_of(7)
        self.assertEqual([alike(tree, SEVEN, row).__class__ for row in (SEVEN, [1] * 7)], [tuple, tuple])
        self.assertIs(breaking(tree, SEVEN, [1] * 7).__class__, list)
        self.assertIs(representative(tree, SEVEN).__class__, list)
        self.assertIs(count_alike(tree, SEVEN, 0, 9).__class__, int)


class ByHandTest(unittest.TestCase):
    def test_no_nodes(self):
        self.assertEqual((alike(None, [], []), breaking(None, [], []), representative(None, [])), (("alike",), [], []))
        for least, most in ((0, 9), (3, 3), (9, 0), (4, 3), (-GREAT, GREAT)):
            self.assertEqual(count_alike(None, [], least, most), 1)

    def test_one_node(self):
        tree = (None, None)
        self.assertEqual(alike(tree, [3], [3]), ("alike",))
        # The search for 3 ends in the one list at the node, in the other one in gap 0.
        self.assertEqual((alike(tree, [3], [4]), alike(tree, [4], [3])), (("apart", 6), ("apart", 6)))
        self.assertEqual((alike(tree, [-3], [-4]), alike(tree, [0], [-1])), (("apart", -8), ("apart", -2)))
        self.assertEqual((breaking(tree, [3], [3]), breaking(tree, [3], [4])), ([], [0]))
        self.assertEqual(representative(tree, [3]), [3])
        told = [count_alike(tree, [3], least, most) for least, most in ((0, 9), (3, 3), (4, 9), (0, 2), (4, 2))]
        self.assertEqual(told, [1, 1, 0, 0, 0])

    def test_the_least_number_may_be_a_half(self):
        # Both lists find 1 at node 0; behind it the one goes right into gap 1, the other ends in gap 2.
        tree = ((None, (None, None)), None)
        self.assertEqual(alike(tree, [1, 5, 9], [1, 0, 9]), ("apart", 3))
        self.assertEqual(alike(tree, [1, 2, 3], [1, 1, 3]), ("apart", 3))

    def test_seven_nodes(self):
        tree = tree_of(7)
        self.assertEqual(alike(tree, SEVEN, [2, 2, 4, 4, 4, 7, 7]), ("alike",))
        self.assertEqual(alike(tree, SEVEN, [99, 2, 4, 4, -99, 7, 0]), ("alike",))
        self.assertEqual(alike(tree, SEVEN, [1, 2, 9, 4, 1, 7, 6]), ("apart", 2))
        self.assertEqual(alike(tree, SEVEN, [5, 2, 9, 4, 1, 7, 8]), ("apart", 15))
        self.assertEqual(alike(tree, SEVEN, [5, 2, 9, 4, 6, 7, 6]), ("apart", 9))
        self.assertEqual(breaking(tree, [1, 2, 3, 4, 5, 6, 7], SEVEN), [0, 2, 4, 5])
        self.assertEqual(breaking(tree, SEVEN, [1, 2, 3, 4, 5, 6, 7]), [0, 2, 4, 5, 6])

    def test_each_label_has_its_factor(self):
        tree = tree_of(7)
        # high from 2 on, 2, high from 4 on, 4, low up to 4, 7, low up to 7
        self.assertEqual(count_alike(tree, SEVEN, 0, 9), 8 * 1 * 6 * 1 * 5 * 1 * 8)
        self.assertEqual(count_alike(tree, SEVEN, 2, 7), 6 * 1 * 4 * 1 * 3 * 1 * 6)
        self.assertEqual([count_alike(tree, SEVEN, 3, 7), count_alike(tree, SEVEN, 2, 6)], [0, 0])
        # high from 2 on, 2, low up to 2, 4, any value, low up to 4
        values = [9, 2, 1, 4, 5, 3]
        self.assertEqual(count_alike(tree_of(6), values, 0, 9), 8 * 1 * 3 * 1 * 10 * 5)
        self.assertEqual(count_alike(tree_of(6), values, 2, 4), 3 * 1 * 1 * 1 * 3 * 3)

    def test_dead_nodes_take_the_value_of_their_block(self):
        values = [9, 2, 1, 4, 5, 3]
        self.assertEqual(labels(tree_of(6), values), ["high", "found", "low", "found", "dead", "low"])
        self.assertEqual(representative(tree_of(6), values), [2, 2, 2, 4, 4, 4])
        self.assertEqual(alike(tree_of(6), values, [9, 2, 1, 4, -50, 3]), ("alike",))
        self.assertEqual(breaking(tree_of(6), [9, 2, 1, 4, -50, 3], values), [])
        falling = list(range(15, 0, -1))
        self.assertEqual(representative(tree_of(15), falling), [8] * 15)

    def test_bounds_are_allowed_values(self):
        tree = tree_of(3)
        self.assertEqual([alike(tree, [9, 4, 6], [value, 4, 6])[0] for value in (3, 4, 5)], ["apart", "alike", "alike"])
        self.assertEqual([breaking(tree, [value, 4, 6], [9, 4, 6]) for value in (3, 4, 5)], [[0], [], []])
        self.assertEqual([breaking(tree, [1, 4, value], [1, 4, 2]) for value in (3, 4, 5)], [[], [], [2]])

    def test_great_values(self):
        tree = tree_of(3)
        values = [GREAT, GREAT - 1, -GREAT]
        self.assertEqual(representative(tree, values), [GREAT - 1] * 3)
        self.assertEqual(alike(tree, values, [GREAT - 1] * 3), ("alike",))
        self.assertEqual(alike(tree, values, [GREAT - 2, GREAT - 1, 0]), ("apart", 2 * GREAT - 4))
        self.assertEqual(alike(tree, values, [GREAT, GREAT - 1, GREAT]), ("apart", 2 * GREAT - 1))
        self.assertEqual(count_alike(tree, values, -GREAT, GREAT), 2 * (2 * GREAT))
        self.assertEqual(breaking(tree, [GREAT - 2, GREAT - 1, GREAT], values), [0, 2])


class AgainstAllListsTest(unittest.TestCase):
    def test_alike_tells_the_least_number(self):
        for many, tree in SMALL:
            for values in helper.all_lists(many, 3):
                for other in helper.all_lists(many, 3):
                    both = zip(all_ends(tree, values), all_ends(tree, other))
                    apart = [at - 4 for at, (one, two) in enumerate(both) if one != two]
                    self.assertEqual(alike(tree, values, other), answer(apart[0] if apart else None))

    def test_breaking_tells_the_values_that_no_such_list_has(self):
        for many, tree in SMALL:
            lists = helper.all_lists(many, 4)
            alike_lists = {}
            for row in lists:
                alike_lists.setdefault(tuple(all_ends(tree, row)), []).append(row)
            for other in lists:
                rows = alike_lists[tuple(all_ends(tree, other))]
                had = [{row[node] for row in rows} for node in range(many)]
                for values in lists[::3]:
                    told = [node for node in range(many) if values[node] not in had[node]]
                    self.assertEqual(breaking(tree, values, other), told)

    def test_count_alike_counts_such_lists(self):
        bounds = [(least, most) for least in range(-1, 4) for most in range(-1, 5)]
        for many, tree in SMALL:
            for values in helper.all_lists(many, 3):
                for least, most in bounds[many::many + 1]:
                    rows = [[shift + least for shift in row]
                            for row in helper.all_lists(many, max(0, most - least + 1))]
                    told = [row for row in rows if all_ends(tree, row) == all_ends(tree, values)]
                    self.assertEqual(count_alike(tree, values, least, most), len(told), (values, least, most))

    def test_representative_is_the_one_such_list_that_never_falls(self):
        for many in range(5):
            for tree in helper.all_trees(many):
                rows = [row for row in helper.all_lists(many, 4) if not helper.falls(row)]
                for values in helper.all_lists(many, 4):
                    told = [row for row in rows if all_ends(tree, row) == all_ends(tree, values)]
                    self.assertEqual([representative(tree, values)], told)


class AgainstSearchesTest(unittest.TestCase):
    def test_alike(self):
        kinds = set()
        for shown, other in PAIRS:
            twice = least_apart(shown.tree, shown.values, other)
            kinds.add(None if twice is None else twice % 2)
            self.assertEqual(alike(shown.tree, shown.values, other), answer(twice))
            self.assertEqual(alike(shown.tree, other, shown.values), answer(twice))
        self.assertEqual(kinds, {None, 0, 1})

    def test_breaking(self):
        for shown, other in PAIRS:
            told = []
            for node, value in enumerate(other):
                low, high = allowed(shown, node)
                if low is not None and value < low or high is not None and value > high:
                    told.append(node)
            self.assertEqual(breaking(shown.tree, other, shown.values), told)

    def test_count_alike(self):
        rng = random.Random(3)
        for shown, _ in PAIRS[::4]:
            edges = [-GREAT, GREAT, 0] + [value + shift for value in shown.values for shift in (-1, 0, 1)]
            bounds = [(min(shown.values), max(shown.values)), (max(shown.values), min(shown.values)), (-GREAT, GREAT)]
            for least, most in bounds + [(rng.choice(edges), rng.choice(edges)) for _ in range(6)]:
                told = 1
                for node in range(len(shown.values)):
                    low, high = allowed(shown, node)
                    first = max([least] + [low] * (low is not None))
                    last = min([most] + [high] * (high is not None))
                    told *= max(0, last - first + 1)
                self.assertEqual(count_alike(shown.tree, shown.values, least, most), told)

    def test_representative(self):
        for shown, _ in PAIRS[::4]:
            row = representative(shown.tree, shown.values)
            self.assertEqual((helper.falls(row), len(row)), ([], len(shown.values)))
            self.assertIsNone(least_apart(shown.tree, shown.values, row))


class PromisesTest(unittest.TestCase):
    def test_lists_act_alike_exactly_if_their_step_tables_are_equal(self):
        for shown, other in PAIRS:
            told = steps(shown.tree, shown.values) == steps(shown.tree, other)
            self.assertEqual(alike(shown.tree, shown.values, other) == ("alike",), told)
            self.assertEqual(representative(shown.tree, shown.values) == representative(shown.tree, other), told)

    def test_nothing_breaks_exactly_if_the_lists_act_alike(self):
        for shown, other in PAIRS:
            told = alike(shown.tree, shown.values, other) == ("alike",)
            self.assertEqual(breaking(shown.tree, shown.values, other) == [], told)
            self.assertEqual(breaking(shown.tree, other, shown.values) == [], told)

    def test_small_lists_act_alike_exactly_if_all_of_this_says_so(self):
        for many, tree in SMALL:
            for values in helper.all_lists(many, 3):
                for other in helper.all_lists(many, 3):
                    told = alike(tree, values, other) == ("alike",)
                    self.assertEqual(steps(tree, values) == steps(tree, other), told)
                    self.assertEqual(breaking(tree, values, other) == [], told)

    def test_the_number_tells_the_lists_apart_and_no_lesser_one_does(self):
        for shown, other in PAIRS:
            told = alike(shown.tree, shown.values, other)
            if told[0] == "apart":
                self.assertNotEqual(*[find(shown.tree, row, told[1]) for row in (shown.values, other)])
                for shift in range(1, 8):
                    self.assertEqual(*[find(shown.tree, row, told[1] - shift) for row in (shown.values, other)])

    def test_a_list_that_never_falls_is_its_own_representative(self):
        for shown, other in PAIRS:
            row = sorted(other)
            self.assertEqual(representative(shown.tree, row), row)

    def test_each_block_holds_one_node_that_is_found(self):
        for shown, _ in PAIRS[::4]:
            row = representative(shown.tree, shown.values)
            self.assertEqual([row[node] for node in found(shown.tree, shown.values)], sorted(set(row)))
            for node in found(shown.tree, shown.values):
                self.assertEqual(row[node], shown.values[node])

    def test_lists_that_are_nowhere_less_have_such_representatives(self):
        rng = random.Random(7)
        for shown, other in PAIRS:
            for lesser, greater in ((shown.values, [value + rng.choice([0, 0, 1, 40]) for value in shown.values]),
                                    ([min(both) for both in zip(shown.values, other)], shown.values)):
                rows = [representative(shown.tree, row) for row in (lesser, greater)]
                self.assertTrue(all(one <= two for one, two in zip(*rows)))

    def test_all_lists_of_a_few_values_are_counted_once(self):
        rng = random.Random(4)
        for many, most in ((1, 5), (2, 4), (4, 3), (6, 2), (8, 2)):
            for tree in helper.shaped_trees(many) + [helper.random_tree(rng, many)]:
                rows = [row for row in helper.all_lists(many, most + 1) if not helper.falls(row)]
                self.assertEqual(sum(count_alike(tree, row, 0, most) for row in rows), (most + 1) ** many)

    def test_insertion_indices_are_numbers_of_values_of_the_representative(self):
        for shown, _ in PAIRS[::4]:
            row = representative(shown.tree, shown.values)
            for number in shown.probes:
                twice = int(2 * number)
                less = sum(1 for value in row if 2 * value < twice)
                most = sum(1 for value in row if 2 * value <= twice)
                self.assertEqual(insertion(shown.tree, shown.values, twice), less)
                self.assertEqual(insertion(shown.tree, shown.values, twice, side="right"), most)

    def check_change(self, tree, values, node, value):
        """Changes one value, and holds the searches that end differently against the interval of the node."""
        changed = values[:node] + [value] + values[node + 1:]
        bounds = interval(tree, values, node)
        self.assertEqual(interval(tree, changed, node), bounds)
        first, last = sorted([values[node], value])
        apart = []
        for number in helper.probes(values + [value]):
            between = first <= number <= last and first < last and bounds is not None
            moved = between and (bounds[0] is None or number > bounds[0]) and (bounds[1] is None or number < bounds[1])
            self.assertEqual(find(tree, values, int(2 * number)) != find(tree, changed, int(2 * number)), moved)
            if moved:
                apart.append(int(2 * number))
        self.assertEqual(alike(tree, values, changed), answer(min(apart, default=None)))
        self.assertEqual(breaking(tree, changed, values), [node] if apart else [])

    def test_what_a_change_of_one_value_moves(self):
        for many, tree in SMALL:
            for values in helper.all_lists(many, 3):
                for node in range(many):
                    for value in range(-1, 4):
                        self.check_change(tree, values, node, value)
        rng = random.Random(9)
        for shown, other in PAIRS:
            node = rng.randrange(len(other))
            self.check_change(shown.tree, shown.values, node, rng.choice(other + [shown.values[node] + 1]))


class WrongInputTest(helper.Case):
    def test_no_trees(self):
        for thing in helper.NO_TREES:
            for name, call in CALLS.items():
                with self.subTest(thing=thing, name=name):
                    self.fails(lambda: call(thing, [1]), InvalidTree)

    def check_wrong_values(self, calls):
        """Calls, each with three nodes and these values, must name the first wrong value."""
        for name, call in calls.items():
            for values in (None, 3, True, "123", b"123", (1, 2, 3), {0: 1, 1: 2, 2: 3}, {1, 2, 3}, range(3), object(),
                           [], [1, 2], [1, 2, 3, 4], [None] * 4):
                with self.subTest(values=values, name=name):
                    self.fails(lambda: call(values), InvalidValues, "node", None)
            for wrong in helper.NO_NUMBERS:
                for node in range(3):
                    values = [5, 6, 7]
                    values[node] = wrong
                    with self.subTest(wrong=wrong, node=node, name=name):
                        self.fails(lambda: call(values), InvalidValues, "node", node)
            self.fails(lambda: call([5, True, "x"]), InvalidValues, "node", 1)

    def test_wrong_values(self):
        tree = tree_of(3)
        self.check_wrong_values({
            "alike": lambda values: alike(tree, values, [1, 2, 3]),
            "breaking": lambda values: breaking(tree, values, [1, 2, 3]),
            "count_alike": lambda values: count_alike(tree, values, 9, 0),
            "representative": lambda values: representative(tree, values),
        })

    def test_wrong_other_values(self):
        tree = tree_of(3)
        self.check_wrong_values({
            "alike": lambda other: alike(tree, [1, 2, 3], other),
            "breaking": lambda other: breaking(tree, [1, 2, 3], other),
        })

    def test_no_values_for_no_nodes(self):
        for call in (lambda: alike(None, [1], []), lambda: alike(None, [], [1]), lambda: breaking(None, [], (1,)),
                     lambda: breaking(None, (), []), lambda: count_alike(None, [1], 9, 0),
                     lambda: representative(None, None)):
            self.fails(call, InvalidValues, "node", None)

    def test_the_tree_is_examined_first(self):
        for function in (alike, breaking):
            self.fails(lambda: function((None,), [True], None), InvalidTree)
            self.fails(lambda: function((None,), [1], [True]), InvalidTree)
        self.fails(lambda: count_alike((None,), [True], 0, 9), InvalidTree)
        self.fails(lambda: representative((None,), None), InvalidTree)

    def test_the_values_are_examined_before_the_other_values(self):
        for function in (alike, breaking):
            self.fails(lambda: function(tree_of(3), [1, 2, True], [True, 2, 3]), InvalidValues, "node", 2)
            self.fails(lambda: function(tree_of(3), [1, 2], [True, 2, 3]), InvalidValues, "node", None)
            self.fails(lambda: function(tree_of(3), [1, True, 3], None), InvalidValues, "node", 1)

    def test_bases(self):
        with self.assertRaises(ValueError):
            alike(tree_of(3), [1, 2, 3], [])
        with self.assertRaises(ValueError):
            representative(3, [])


class BoundsTest(unittest.TestCase):
    def test_every_call_ends_within_seconds(self):
        shapes = helper.shaped_trees(64) + [helper.row_left(9, helper.row_right(10, helper.halved([0] * 45, "lower")))]
        rising = [GREAT - 63 + at for at in range(64)]
        for tree in shapes:
            for values, other in ((rising, rising[:63] + [GREAT + 1]), (rising[::-1], rising), (rising, list(rising))):
                for call in (lambda: alike(tree, values, other), lambda: breaking(tree, values, other),
                             lambda: count_alike(tree, values, -GREAT, GREAT), lambda: representative(tree, values)):
                    begun = time.monotonic()
                    call()
                    self.assertLess(time.monotonic() - begun, 3)

    def test_trees_and_values_beyond_the_bounds_raise_no_error(self):
        tree = helper.row_right(150)
        values = [10 ** 30 + at for at in range(150)]
        self.assertEqual(representative(tree, values), values)
        self.assertEqual(alike(tree, values, values[:149] + [0]), ("apart", 2 * values[148] + 1))
        self.assertEqual(breaking(tree, values, values[::-1]), [0])
        self.assertEqual(count_alike(tree, values[::-1], 0, values[-1]), (values[-1] + 1) ** 149)


if __name__ == "__main__":
    unittest.main()
