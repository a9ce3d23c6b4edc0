import random
import time
import unittest
from functools import lru_cache
from itertools import combinations, permutations, product

from halfsearch import wishes as module
from halfsearch.errors import InvalidTree, InvalidValues, UnknownNode
from halfsearch.shapes import tree_of
from halfsearch.wishes import are_chains, can_keep, distance, repair, repaired, required
from tests import helper

GREAT = helper.GREAT
SEVEN = [5, 2, 9, 4, 1, 7, 6]

# Each function as a call with a tree, values and wished nodes; the first two take no values.
CALLS = {
    "required": lambda tree, values, wished: required(tree, wished),
    "distance": lambda tree, values, wished: distance(tree, wished, 0, 0),
    "can_keep": lambda tree, values, wished: can_keep(tree, values, wished, []),
    "repair": repair,
    "repaired": repaired,
    "are_chains": lambda tree, values, wished: are_chains(tree, values, wished, []),
}
WITH_VALUES = {name: call for name, call in CALLS.items() if name not in ("required", "distance")}


def concerned(tree, wished):
    """The wished nodes and their ancestors."""
    nodes = set(wished)
    for node in wished:
        nodes |= {ancestor for ancestor, _ in helper.way_to(tree, node)}
    return sorted(nodes)


def subsets(nodes):
    return [list(row) for many in range(len(nodes) + 1) for row in combinations(nodes, many)]


@lru_cache(maxsize=None)
def all_rows(tree, top):
    """All values in which those from 0 up to, but not including, `top` leave room for all other nodes on both sides.

    With each the nodes that are found.
    """
    many = helper.numbered(tree)[1]
    rows = product(range(1 - many, top + many - 1), repeat=many)
    return [(row, helper.found_nodes(tree, row)) for row in rows]


class Plain:
    """What a plain search through all values says of wished nodes."""

    def __init__(self, tree, wished, top):
        self.nodes = concerned(tree, wished)
        rows = [row for row, found in all_rows(tree, top) if found.issuperset(wished)]
        self.apart = {pair: min(row[pair[1]] - row[pair[0]] for row in rows)
                      for pair in permutations(self.nodes, 2)}
        self.shown = {tuple(kept): {tuple(row[node] for node in kept) for row in rows} for kept in subsets(self.nodes)}

    def required(self):
        """Those pairs of which the second value is greater whenever all wished nodes are found."""
        return sorted(pair for pair, apart in self.apart.items() if apart > 0)

    def distance(self, one, other):
        """By how much it is greater at least."""
        return 0 if one == other else max(0, self.apart[one, other])

    def can_keep(self, values, kept):
        """Whether some values in which all wished nodes are found are the same there."""
        return tuple(values[node] for node in kept) in self.shown[tuple(kept)]

    def most(self, values):
        return max(len(kept) for kept in subsets(self.nodes) if self.can_keep(values, kept))

    def are_chains(self, values, thing):
        """Whether lists of nodes are chains that together contain each concerned node once."""
        pairs = [pair for row in thing for pair in zip(row, row[1:])]
        held = sorted(node for row in thing for node in row)
        return all(thing) and held == self.nodes and all(
            0 < self.apart[one, other] and values[other] < values[one] + self.apart[one, other]
            for one, other in pairs)


def small_cases():
    """All trees of up to four nodes and all sets of wished nodes, with what a plain search says."""
    return [(many, tree, wished, Plain(tree, wished, 3)) for many in range(5) for tree in helper.all_trees(many)
            for wished in subsets(range(many))]


SMALL = small_cases()


class Row:
    """The required order as the row shows it of which the document speaks."""

    def __init__(self, tree, wished):
        ways = {node: helper.way_to(tree, node) for node in range(helper.numbered(tree)[1])}
        parting = []
        for one, other in zip(sorted(wished), sorted(wished)[1:]):
            # The nodes of each way that lie between the two nodes, both included, begin where the ways part.
            shared = [at for at, _ in ways[one] + [(one, None)] if one <= at <= other]
            parting.append(shared[0])
        self.row = sorted(set(wished) | set(parting))
        self.befores, self.behinds = [], []
        for node in set(concerned(tree, wished)) - set(self.row):
            sides = {dict(ways[end])[node] for end in wished if node in dict(ways[end])}
            assert len(sides) == 1
            (self.befores if sides == {"right"} else self.behinds).append(node)

    def place(self, node):
        """The first and the last place of a node in the row, or of its neighbours there."""
        if node in self.befores:
            return len([one for one in self.row if one < node]) - 1
        if node in self.behinds:
            return len([one for one in self.row if one < node])
        return self.row.index(node)

    def distance(self, one, other):
        """The number of steps by way of the row; ancestors aside have no steps to each other but by the row."""
        if one in self.behinds or other in self.befores or one == other:
            return 0
        steps = self.place(other) - self.place(one)
        aside = one in self.befores and other in self.behinds
        return steps if steps > (1 if aside else 0) else 0


def larger_cases():
    """Trees of up to 64 nodes, each with some wished nodes and some values."""
    rng = random.Random(31)
    cases = []
    for tree in helper.larger_trees(rng):
        many = helper.numbered(tree)[1]
        lists = helper.shaped_lists(rng, many)
        for count in sorted({1, 2, 3, many // 3 + 1, many // 2 + 1, many}):
            wished = rng.sample(range(many), min(many, count))
            cases.append((tree, wished, rng.choice(lists)))
            cases.append((tree, wished, bent(rng, many)))
    return cases


def bent(rng, many):
    """A list that rises, but for some of its values."""
    row = [rng.choice((1, 2)) * node for node in range(many)]
    for _ in range(many // 3):
        row[rng.randrange(many)] = rng.randrange(-3, 2 * many)
    return row


LARGER = larger_cases()


class InterfaceTest(helper.Case):
    def test_functions_and_their_parameters(self):
        self.check_interface(module, {
            "required": "(tree, wished)",
            "distance": "(tree, wished, one, other)",
            "can_keep": "(tree, values, wished, kept)",
            "repair": "(tree, values, wished)",
            "repaired": "(tree, values, wished)",
            "are_chains": "(tree, values, wished, thing)",
        })

    def test_arguments_by_name(self):
        tree = tree_of(7)
        self.assertEqual(required(wished=[0, 4], tree=tree), required(tree, [0, 4]))
        self.assertEqual(distance(other=5, one=0, wished=[0, 4], tree=tree), 3)
        self.assertTrue(can_keep(kept=[1, 3], wished=[0], values=SEVEN, tree=tree))
        self.assertEqual(repair(wished=[0], values=SEVEN, tree=tree), repair(tree, SEVEN, [0]))
        self.assertEqual(repaired(wished=[0], values=SEVEN, tree=tree), repaired(tree, SEVEN, [0]))
        self.assertTrue(are_chains(thing=[[0, 1], [3]], wished=[0], values=SEVEN, tree=tree))

    def test_results_are_new_lists_and_arguments_stay(self):
        for tree, wished, values in LARGER[::7] + [(None, [], []), (tree_of(3), [], [3, 2, 1])]:
            kept, chains = repair(tree, values, wished)
            self.gives_new(required, tree, wished)
            self.gives_new(repair, tree, values, wished)
            self.gives_new(repaired, tree, values, wished)
            self.gives_new(can_keep, tree, values, wished, kept)
            self.gives_new(are_chains, tree, values, wished, chains)
            for node in kept[:1]:
                self.gives_new(distance, tree, wished, node, node)

    def test_values_in_which_all_wished_nodes_are_found_are_copied(self):
        values = [1, 2, 3]
        row = repaired(tree_of(3), values, [0, 1, 2])
        self.assertEqual(row, values)
        self.assertIsNot(row, values)

    def test_kinds_of_values(self):
        tree = tree_of(7)
        kept, chains = repair(tree, SEVEN, [0, 2, 5])
        self.assertIs(repair(tree, SEVEN, [0]).__class__, tuple)
        for row in (kept, chains, required(tree, [0]), repaired(tree, SEVEN, [0])) + tuple(chains):
            self.assertIs(row.__class__, list)
        self.assertEqual({pair.__class__ for pair in required(tree, [0, 4])}, {tuple})
        self.assertIs(distance(tree, [0], 0, 1).__class__, int)
        for answer in (can_keep(tree, SEVEN, [0], []), can_keep(tree, SEVEN, [0], None),
                       are_chains(tree, SEVEN, [0], chains), are_chains(tree, SEVEN, [0], [[0, 1], [3]])):
            self.assertIs(answer.__class__, bool)


class ByHandTest(unittest.TestCase):
    def test_nothing_is_wished(self):
        for many in (0, 1, 7):
            tree = tree_of(many)
            values = list(range(many, 0, -1))
            self.assertEqual(required(tree, []), [])
            self.assertEqual(repair(tree, values, []), ([], []))
            self.assertEqual(repaired(tree, values, []), values)
            self.assertTrue(can_keep(tree, values, [], []))
            self.assertFalse(can_keep(tree, values, [], [0]))
            self.assertTrue(are_chains(tree, values, [], []))
            self.assertFalse(are_chains(tree, values, [], [[]]))
            self.assertFalse(are_chains(tree, values, [], [[0]]))

    def test_one_node(self):
        tree = (None, None)
        self.assertEqual((required(tree, [0]), distance(tree, [0], 0, 0)), ([], 0))
        self.assertEqual(repair(tree, [-GREAT], [0]), ([0], [[0]]))
        self.assertEqual(repaired(tree, [-GREAT], [0]), [-GREAT])

    def test_the_example(self):
        tree = tree_of(7)
        self.assertEqual(required(tree, [4, 0]), [(0, 1), (0, 3), (0, 4), (0, 5), (3, 4), (3, 5), (4, 5)])
        self.assertEqual([distance(tree, [0, 4], 0, node) for node in (0, 1, 3, 4, 5)], [0, 1, 1, 2, 3])
        self.assertEqual([distance(tree, [0, 4], node, 1) for node in (0, 1, 3, 4, 5)], [1, 0, 0, 0, 0])

    def test_the_root_is_wished_alone(self):
        tree = tree_of(7)
        self.assertEqual(required(tree, [3]), [])
        self.assertEqual(repair(tree, SEVEN, [3]), ([3], [[3]]))

    def test_a_falling_row_keeps_one(self):
        for tree in (helper.row_left(20), helper.row_right(20), helper.halved([0] * 20, "lower")):
            values = list(range(20, 0, -1))
            kept, chains = repair(tree, values, list(range(20)))
            self.assertEqual((len(kept), chains), (1, [list(range(20))]))
            self.assertEqual(len([one for one, two in zip(values, repaired(tree, values, chains[0])) if one == two]), 1)

    def test_values_too_near_for_their_distance(self):
        tree = helper.row_left(3)
        wished = [0, 1, 2]
        self.assertFalse(can_keep(tree, [1, 7, 2], wished, [0, 2]))
        self.assertTrue(can_keep(tree, [1, 7, 3], wished, [0, 2]))
        self.assertTrue(can_keep(tree, [1, 7, 2], wished, [0, 1]))
        self.assertFalse(can_keep(tree, [1, 7, 3], wished, wished))
        self.assertTrue(are_chains(tree, [1, 7, 2], wished, [[0, 2], [1]]))
        self.assertFalse(are_chains(tree, [1, 7, 3], wished, [[0, 2], [1]]))
        self.assertTrue(are_chains(tree, [1, 7, 3], wished, [[0], [1, 2]]))
        self.assertFalse(are_chains(tree, [1, 7, 3], wished, [[0, 1, 2]]))
        self.assertEqual(repair(tree, [4, 3, 2], wished)[1], [wished])
        self.assertEqual(repaired(tree, [1, 7, 2], wished)[:2], [1, 7])

    def test_great_values(self):
        tree = tree_of(3)
        self.assertEqual(repair(tree, [GREAT, 0, -GREAT], [0, 2])[1], [[0, 1, 2]])
        self.assertTrue(can_keep(tree, [-GREAT, 0, GREAT], [0, 2], [0, 1, 2]))
        self.assertTrue(can_keep(tree, [GREAT - 2, GREAT - 1, GREAT], [0, 2], [2, 0, 1]))
        self.assertFalse(can_keep(tree, [GREAT - 1, -GREAT, GREAT], [0, 2], [0, 2]))
        self.assertEqual(repaired(tree, [-GREAT, -GREAT, -GREAT], [0, 2]).count(-GREAT), 1)


class AgainstPlainSearchTest(unittest.TestCase):
    def test_required(self):
        for _, tree, wished, plain in SMALL:
            for order in permutations(wished):
                self.assertEqual(required(tree, list(order)), plain.required(), (tree, order))

    def test_distance(self):
        for _, tree, wished, plain in SMALL:
            for one, other in product(plain.nodes, repeat=2):
                self.assertEqual(distance(tree, wished[::-1], one, other), plain.distance(one, other))

    def values_for(self, rng, many):
        """All small lists; for four nodes some of them."""
        rows = helper.all_lists(many, 3)
        return rows if many < 4 else rng.sample(rows, 12)

    def test_can_keep(self):
        rng = random.Random(1)
        answers = set()
        for many, tree, wished, plain in SMALL:
            for values in self.values_for(rng, many):
                for kept in subsets(range(many)):
                    told = set(kept) <= set(plain.nodes) and plain.can_keep(values, kept)
                    answers.add(told)
                    rng.shuffle(kept)
                    self.assertIs(can_keep(tree, values, wished, kept), told, (tree, values, wished, kept))
        self.assertEqual(answers, {True, False})

    def test_repair_and_repaired(self):
        rng = random.Random(2)
        for many, tree, wished, plain in SMALL:
            for values in self.values_for(rng, many):
                kept, chains = repair(tree, values, wished)
                most = plain.most(values)
                self.assertEqual((len(kept), len(chains)), (most, most))
                self.assertEqual(kept, sorted(set(kept)))
                self.assertTrue(plain.can_keep(values, kept))
                self.assertTrue(plain.are_chains(values, chains))
                row = repaired(tree, values, wished)
                changed = [node for node in range(many) if row[node] != values[node]]
                self.assertEqual((len(row), len(changed)), (many, len(plain.nodes) - most))
                self.assertLessEqual(set(wished), helper.found_nodes(tree, row))

    def test_are_chains(self):
        rng = random.Random(3)
        things = {many: helper.made_things(many) for many in range(5)}
        answers = set()
        for many, tree, wished, plain in SMALL:
            # All ways to put the concerned nodes into lists, and others that miss some or hold too many.
            parted = [thing for thing in things[many]
                      if sorted(node for row in thing for node in row) == plain.nodes and all(thing)]
            parted = parted if many < 4 else rng.sample(parted, min(20, len(parted)))
            for values in self.values_for(rng, many):
                others = rng.sample(things[many], min(20, len(things[many])))
                for thing in parted + others + [repair(tree, values, wished)[1]]:
                    told = plain.are_chains(values, thing)
                    answers.add(told)
                    self.assertIs(are_chains(tree, values, wished, thing), told, (tree, values, wished, thing))
        self.assertEqual(answers, {True, False})


class LargerTest(unittest.TestCase):
    def test_required_and_distance(self):
        for tree, wished, _ in LARGER[::2]:
            row = Row(tree, wished)
            nodes = concerned(tree, wished)
            told = {pair: row.distance(*pair) for pair in product(nodes, repeat=2)}
            self.assertEqual(required(tree, wished), [pair for pair in sorted(told) if told[pair] > 0])
            rng = random.Random(len(nodes))
            for pair in rng.sample(sorted(told), min(len(told), 40)):
                self.assertEqual(distance(tree, wished, *pair), told[pair])

    def test_as_many_can_keep_their_values_as_there_are_chains(self):
        counts = set()
        for tree, wished, values in LARGER:
            row = Row(tree, wished)
            nodes = concerned(tree, wished)
            kept, chains = repair(tree, values, wished)
            counts.add(len(kept) - len(nodes))
            self.assertEqual(len(kept), len(chains))
            self.assertEqual(sorted(node for chain in chains for node in chain), nodes)
            for chain in chains:
                for one, other in zip(chain, chain[1:]):
                    self.assertGreater(row.distance(one, other), 0)
                    self.assertLess(values[other], values[one] + row.distance(one, other))
            self.assertEqual(kept, sorted(set(kept) & set(nodes)))
            for one, other in product(kept, repeat=2):
                apart = row.distance(one, other)
                self.assertTrue(apart == 0 or values[other] >= values[one] + apart)
            self.assertTrue(can_keep(tree, values, wished, kept))
            self.assertTrue(are_chains(tree, values, wished, chains))
            # One more can keep its value only beside fewer others.
            for node in nodes:
                if node not in kept:
                    self.assertFalse(can_keep(tree, values, wished, kept + [node]))
        self.assertGreater(len(counts), 10)

    def test_repaired(self):
        for tree, wished, values in LARGER:
            row = repaired(tree, values, wished)
            changed = [node for node in range(len(values)) if row[node] != values[node]]
            nodes = concerned(tree, wished)
            self.assertEqual(len(row), len(values))
            self.assertLessEqual(set(changed), set(nodes))
            self.assertEqual(len(changed), len(nodes) - len(repair(tree, values, wished)[0]))
            self.assertLessEqual(set(wished), helper.found_nodes(tree, row))
            self.assertTrue(can_keep(tree, row, wished, nodes))
            self.assertEqual(repaired(tree, row, wished), row)

    def test_chains_that_are_bent(self):
        rng = random.Random(8)
        for tree, wished, values in LARGER[::3]:
            _, chains = repair(tree, values, wished)
            longer = [at for at, chain in enumerate(chains) if len(chain) > 1]
            for at in longer[:3]:
                self.assertFalse(are_chains(tree, values, wished, chains[:at] + [chains[at][::-1]] + chains[at + 1:]))
                cut = rng.randrange(1, len(chains[at]))
                parted = chains[:at] + [chains[at][:cut], chains[at][cut:]] + chains[at + 1:]
                self.assertTrue(are_chains(tree, values, wished, parted))
                self.assertTrue(are_chains(tree, values, wished, parted[::-1]))
            self.assertFalse(are_chains(tree, values, wished, chains + [chains[0]]))
            self.assertFalse(are_chains(tree, values, wished, chains + [[]]))
            self.assertFalse(are_chains(tree, values, wished, chains[1:]))
            self.assertFalse(are_chains(tree, values, wished, chains + [[len(values)]]))


class WrongInputTest(helper.Case):
    def test_no_trees(self):
        for thing in helper.NO_TREES:
            for name, call in CALLS.items():
                with self.subTest(thing=thing, name=name):
                    self.fails(lambda: call(thing, [1], [0]), InvalidTree)

    def test_wrong_values(self):
        tree = tree_of(3)
        for name, call in WITH_VALUES.items():
            for values in helper.NO_LISTS + [[], [1, 2], [1, 2, 3, 4], [None] * 4]:
                with self.subTest(values=values, name=name):
                    self.fails(lambda: call(tree, values, [0]), InvalidValues, "node", None)
            for wrong in helper.NO_NUMBERS:
                for node in range(3):
                    values = [5, 6, 7]
                    values[node] = wrong
                    with self.subTest(wrong=wrong, node=node, name=name):
                        self.fails(lambda: call(tree, values, [0]), InvalidValues, "node", node)
            self.fails(lambda: call(None, [1], []), InvalidValues, "node", None)

    def test_wished_items_that_are_no_nodes(self):
        for name, call in CALLS.items():
            for wrong in [-1, -3, 3, 4, 64, 10 ** 5000, helper.Same()] + helper.NO_NUMBERS:
                for wished in ([wrong], [0, wrong], [wrong, 0], [2, wrong, wrong, 7]):
                    with self.subTest(name=name, kind=wrong.__class__):
                        self.fails(lambda: call(tree_of(3), [1, 2, 3], wished), UnknownNode, "node", wrong)
            self.fails(lambda: call(None, [], [0]), UnknownNode, "node", 0)

    def test_nodes_that_are_wished_twice(self):
        for name, call in CALLS.items():
            for wished, node in (([0, 0], 0), ([2, 1, 2], 2), ([1, 0, 0, 1], 0), ([1, 2, 1, 7], 1), ([7, 1, 1], 7)):
                with self.subTest(name=name, wished=wished):
                    self.fails(lambda: call(tree_of(3), [1, 2, 3], wished), UnknownNode, "node", node)

    def test_what_is_wished_is_no_list(self):
        for name, call in CALLS.items():
            for wished in helper.NO_LISTS:
                with self.subTest(name=name, wished=wished):
                    self.fails(lambda: call(tree_of(3), [1, 2, 3], wished), UnknownNode, "node", wished)

    def test_nodes_without_a_distance(self):
        tree = tree_of(7)
        for wrong in [-1, 7, 64, 10 ** 5000, 4, 2, 6, helper.Same()] + helper.NO_NUMBERS:
            for other in (0, 1, 3, 4, None):
                with self.subTest(kind=wrong.__class__, other=other):
                    self.fails(lambda: distance(tree, [0], wrong, other), UnknownNode, "node", wrong)
            for one in (0, 1, 3):
                with self.subTest(kind=wrong.__class__, one=one):
                    self.fails(lambda: distance(tree, [0], one, wrong), UnknownNode, "node", wrong)
        self.fails(lambda: distance(tree, [], 3, 3), UnknownNode, "node", 3)

    def test_errors_in_their_order(self):
        for call in (lambda: can_keep((None,), [True], [9], None), lambda: repair((None,), [True], [9]),
                     lambda: repaired((None,), None, None), lambda: are_chains((None,), [True], [9], None),
                     lambda: required((None,), [9]), lambda: distance((None,), [9], 9, 9)):
            self.fails(call, InvalidTree)
        tree = tree_of(2)
        for call in (lambda: can_keep(tree, [1, True], [9], None), lambda: repair(tree, [1, True], [9]),
                     lambda: repaired(tree, [1, True], [9]), lambda: are_chains(tree, [1, True], [9], None)):
            self.fails(call, InvalidValues, "node", 1)
        for call in (lambda: can_keep(tree, [1, 2], [9], None), lambda: are_chains(tree, [1, 2], [9], None),
                     lambda: distance(tree, [1, 9], 8, 7)):
            self.fails(call, UnknownNode, "node", 9)
        self.fails(lambda: distance(tree, [1], 8, 7), UnknownNode, "node", 8)

    def test_any_thing_is_answered(self):
        for many in (0, 1, 3):
            tree = tree_of(many)
            for wished in subsets(range(many)):
                for thing in helper.ANY_THINGS:
                    with self.subTest(wished=wished, thing=thing):
                        self.assertIs(are_chains(tree, list(range(many)), wished, thing), False)
                        self.assertIs(can_keep(tree, list(range(many)), wished, thing), False)

    def test_kept_nodes_twice_or_not_concerned(self):
        tree = tree_of(7)
        for kept in ([1, 1], [1, 3, 1], [2], [1, 4], [7], [-1], [True], [1, True], [False, 3]):
            self.assertIs(can_keep(tree, SEVEN, [0], kept), False)
        self.assertIs(can_keep(tree, SEVEN, [0], []), True)
        self.assertIs(can_keep(tree, SEVEN, [0], (1, 3)), False)


class BoundsTest(unittest.TestCase):
    def test_every_call_ends_within_seconds(self):
        rng = random.Random(6)
        shapes = helper.shaped_trees(64) + [helper.row_left(9, helper.row_right(10, helper.halved([0] * 45, "lower")))]
        rising = [GREAT - 63 + at for at in range(64)]
        lists = [rising, rising[::-1], [7] * 64, rng.sample(range(64), 64), [rng.randrange(99) for _ in range(64)]]
        for tree in shapes:
            for values in lists:
                for wished in (list(range(64)), rng.sample(range(64), 30), [63, 0]):
                    begun = time.monotonic()
                    kept, chains = repair(tree, values, wished)
                    can_keep(tree, values, wished, kept)
                    are_chains(tree, values, wished, chains)
                    repaired(tree, values, wished)
                    required(tree, wished)
                    distance(tree, wished, wished[0], wished[-1])
                    self.assertLess(time.monotonic() - begun, 3)

    def test_trees_and_values_beyond_the_bounds_raise_no_error(self):
        tree = helper.row_right(90)
        values = [10 ** 30 - at for at in range(90)]
        wished = list(range(90))
        self.assertEqual(repair(tree, values, wished)[1], [wished])
        self.assertEqual(len(required(tree, wished)), 90 * 89 // 2)
        self.assertEqual(distance(tree, wished, 0, 89), 89)


if __name__ == "__main__":
    unittest.main()
