import random
import time
import unittest
from functools import lru_cache

from halfsearch import goals as module
from halfsearch.alike import representative
from halfsearch.errors import InvalidValues, UnknownNode
from halfsearch.goals import are_rows, hidden_by, most_found, tree_for
from tests import helper

GREAT = helper.GREAT

CALLS = {
    "tree_for": lambda values: tree_for(values, []),
    "most_found": most_found,
    "are_rows": lambda values: are_rows(values, []),
    "hidden_by": lambda values: hidden_by(values, 0),
}


def plain_representative(tree, values):
    """What the searches show: a found value stands at the nodes between the gaps before and behind it."""
    table = helper.Shown(tree, values).steps()
    if not values:
        return []
    row = []
    for at, step in enumerate(table):
        if step[0] == "found":
            row.extend([int(step[1])] * (table[at + 1][3] - table[at - 1][3]))
    return row


@lru_cache(maxsize=None)
def plain(values):
    """The representatives under all trees, and the nodes found under each of them."""
    trees = helper.all_trees(len(values))
    return ({tuple(plain_representative(tree, list(values))) for tree in trees},
            [helper.found_nodes(tree, values) for tree in trees])


def small_lists():
    """All lists of up to five small values, or some of them."""
    lists = [row for many, top in ((0, 1), (1, 2), (2, 3), (3, 3), (4, 3)) for row in helper.all_lists(many, top)]
    rng = random.Random(5)
    return lists + rng.sample(helper.all_lists(5, 3), 120) + rng.sample(helper.all_lists(5, 5), 120)


SMALL = small_lists()


def larger_lists():
    rng = random.Random(6)
    return [row for many in (7, 12, 20, 33, 48, 63, 64) for _ in range(3) for row in helper.shaped_lists(rng, many)]


LARGER = larger_lists()


def rises(values, row):
    return all(one < other and values[one] < values[other] for one, other in zip(row, row[1:]))


def never_rises(values, row):
    return all(one < other and values[one] >= values[other] for one, other in zip(row, row[1:]))


def is_cover(values, rows):
    """Whether lists are rows that do not rise and together contain each node once."""
    held = sorted(node for row in rows for node in row)
    return all(rows) and held == list(range(len(values))) and all(never_rises(values, row) for row in rows)


def is_goal(values, goal):
    """By the three looks at each block."""
    if helper.falls(goal):
        return False
    blocks, first = [], 0
    for length in helper.run_lengths(goal):
        blocks.append((goal[first], values[first:first + length]))
        first += length
    return all(block[0] >= value >= block[-1] and value in block for value, block in blocks)


def made_goal(rng, values):
    """A goal of the values, if one is found by cutting the nodes at random, else the representative of a tree."""
    for _ in range(30):
        goal = []
        for length in helper.random_cut(rng, len(values), rng.random()):
            block = values[len(goal):len(goal) + length]
            goal.extend([rng.choice(block)] * length)
        if is_goal(values, goal):
            return goal
    return representative(helper.random_tree(rng, len(values)), values)


def levels_of(tree):
    return 0 if tree is None else 1 + max(levels_of(tree[0]), levels_of(tree[1]))


class InterfaceTest(helper.Case):
    def test_functions_and_their_parameters(self):
        self.check_interface(module, {
            "tree_for": "(values, goal)",
            "most_found": "(values)",
            "are_rows": "(values, thing)",
            "hidden_by": "(values, node)",
        })

    def test_arguments_by_name(self):
        self.assertEqual(tree_for(goal=[1, 1, 2], values=[3, 1, 2]), tree_for([3, 1, 2], [1, 1, 2]))
        self.assertEqual(most_found(values=[3, 1, 2]), most_found([3, 1, 2]))
        self.assertTrue(are_rows(thing=[[0, 1], [2]], values=[3, 1, 2]))
        self.assertEqual(hidden_by(node=1, values=[1, 5, 3, 9]), 2)

    def test_results_are_new_lists_and_arguments_stay(self):
        rng = random.Random(7)
        for values in LARGER[::5] + [[], [4]]:
            goal = made_goal(rng, values)
            self.gives_new(most_found, values)
            self.gives_new(tree_for, values, goal)
            self.gives_new(tree_for, values, [values])
            self.gives_new(are_rows, values, most_found(values)[1])
            for node in range(len(values)):
                self.gives_new(hidden_by, values, node)

    def test_kinds_of_values(self):
        result = most_found([3, 1, 2])
        self.assertIs(result.__class__, tuple)
        for row in [result[1]] + result[1]:
            self.assertIs(row.__class__, list)
        for answer in (are_rows([3, 1], [[0, 1]]), are_rows([1, 3], [[0, 1]]), are_rows([3, 1], None)):
            self.assertIs(answer.__class__, bool)
        self.assertIs(hidden_by([3, 1, 2], 0).__class__, int)


class ByHandTest(unittest.TestCase):
    def test_no_values(self):
        self.assertIsNone(tree_for([], []))
        self.assertEqual(most_found([]), (None, []))
        self.assertIs(are_rows([], []), True)
        self.assertIs(are_rows([], [[]]), False)
        self.assertIs(are_rows([], [[0]]), False)

    def test_one_value(self):
        self.assertEqual(tree_for([5], [5]), (None, None))
        self.assertEqual((tree_for([5], [4]), tree_for([5], []), tree_for([], [5])), ("no", "no", "no"))
        self.assertEqual(most_found([-GREAT]), ((None, None), [[0]]))
        self.assertIsNone(hidden_by([0], 0))
        self.assertTrue(are_rows([5], [[0]]))

    def test_the_examples(self):
        self.assertEqual(representative(tree_for([3, 1, 2], [1, 1, 2]), [3, 1, 2]), [1, 1, 2])
        self.assertEqual(tree_for([3, 1, 2], [1, 2, 2]), "no")
        self.assertEqual([hidden_by([1, 5, 3, 9], node) for node in range(4)], [None, 2, 1, None])

    def test_equal_values(self):
        self.assertEqual(tree_for([4, 4, 4], [3, 3, 3]), "no")
        self.assertEqual(representative(tree_for([4, 4, 4], [4, 4, 4]), [4, 4, 4]), [4, 4, 4])
        self.assertEqual(most_found([4, 4, 4])[1], [[0, 1, 2]])
        self.assertEqual([hidden_by([4, 4, 4], node) for node in range(3)], [1, 0, 0])

    def test_the_three_looks_at_a_block(self):
        self.assertNotEqual(tree_for([5, 3, 4, 1], [4, 4, 4, 4]), "no")
        self.assertEqual(tree_for([3, 5, 4, 1], [4, 4, 4, 4]), "no")
        self.assertEqual(tree_for([5, 1, 4, 5], [4, 4, 4, 4]), "no")
        self.assertEqual(tree_for([5, 3, 5, 1], [4, 4, 4, 4]), "no")
        self.assertEqual(tree_for([5, 3, 2, 4], [3, 3, 2, 4]), "no")
        self.assertNotEqual(tree_for([5, 3, 2, 4], [2, 2, 2, 4]), "no")

    def test_great_values(self):
        values = [GREAT, -GREAT, GREAT - 1, GREAT - 2]
        goal = [-GREAT, -GREAT, GREAT - 2, GREAT - 2]
        self.assertEqual(representative(tree_for(values, goal), values), goal)
        self.assertEqual(tree_for(values, [-GREAT, -GREAT, GREAT - 2, GREAT - 1]), "no")
        self.assertEqual(len(most_found(values)[1]), 2)
        self.assertEqual(hidden_by([-GREAT, GREAT - 1, GREAT], 1), None)
        self.assertEqual(hidden_by([-GREAT, GREAT, GREAT], 1), 2)


class AgainstAllTreesTest(unittest.TestCase):
    def test_tree_for(self):
        goals = {many: helper.all_lists(many, top) for many, top in ((0, 1), (1, 3), (2, 4), (3, 4), (4, 4), (5, 4))}
        rng = random.Random(8)
        counts = {True: 0, False: 0}
        for values in SMALL:
            reached, _ = plain(tuple(values))
            many = len(values)
            tried = [list(goal) for goal in sorted(reached)]
            tried += goals[many] if many < 5 else rng.sample(goals[many], 60)
            for goal in tried:
                tree = tree_for(values, goal)
                counts[tuple(goal) in reached] += 1
                if tuple(goal) in reached:
                    self.assertEqual(plain_representative(tree, values), goal)
                    self.assertEqual(helper.numbered(tree)[1], many)
                else:
                    self.assertEqual(tree, "no")
        self.assertGreater(min(counts.values()), 500)

    def test_most_found(self):
        for values in SMALL:
            _, shown = plain(tuple(values))
            tree, rows = most_found(values)
            most = max(len(found) for found in shown)
            self.assertEqual((len(helper.found_nodes(tree, values)), len(rows)), (most, most))
            self.assertEqual(helper.numbered(tree)[1], len(values))
            self.assertTrue(is_cover(values, rows))

    def test_are_rows(self):
        rng = random.Random(9)
        things = {many: helper.made_things(many) for many in range(5)}
        answers = set()
        for values in SMALL:
            if len(values) < 5:
                made = things[len(values)]
                made = made if len(values) < 4 else rng.sample(made, 200)
                for thing in made + [most_found(values)[1]]:
                    told = is_cover(values, thing)
                    answers.add(told)
                    self.assertIs(are_rows(values, thing), told, (values, thing))
        self.assertEqual(answers, {True, False})

    def test_hidden_by(self):
        for values in SMALL:
            _, shown = plain(tuple(values))
            roots = [helper.numbered(tree)[0][0] for tree in helper.all_trees(len(values)) if values]
            for node in range(len(values)):
                # A node hides another one if that one is found under no tree with this root.
                shows = {root for root, found in zip(roots, shown) if node in found}
                hiders = [root for root in range(len(values)) if root not in shows]
                self.assertEqual(hidden_by(values, node), hiders[0] if hiders else None)
                self.assertEqual(hiders == [], all(node in found for found in shown))

    def test_a_single_one_is_found_exactly_if_the_last_value_is_not_greater(self):
        for values in SMALL:
            _, shown = plain(tuple(values))
            if values:
                told = min(len(found) for found in shown) == 1
                self.assertEqual(told, values[-1] <= values[0])
                goals = [[value] * len(values) for value in values]
                self.assertEqual(told, any(tree_for(values, goal) != "no" for goal in goals))

    def test_all_trees_give_the_same_exactly_if_the_values_never_fall(self):
        for values in SMALL:
            reached, _ = plain(tuple(values))
            self.assertEqual(len(reached) == 1, not helper.falls(values))


class LargerTest(unittest.TestCase):
    def check_tree(self, tree, many):
        self.assertEqual(helper.numbered(tree)[1], many)
        self.assertLessEqual(levels_of(tree), 20)

    def test_tree_for(self):
        rng = random.Random(10)
        reached, lost = 0, 0
        for values in LARGER:
            many = len(values)
            goals = [made_goal(rng, values) for _ in range(4)]
            goals += [representative(helper.random_tree(rng, many), values), sorted(values), values]
            for goal in list(goals):
                bent = list(goal)
                bent[rng.randrange(many)] += rng.choice([-1, 1])
                goals.append(bent)
            for goal in goals:
                tree = tree_for(values, goal)
                if is_goal(values, goal):
                    reached += 1
                    self.check_tree(tree, many)
                    self.assertEqual(plain_representative(tree, values), goal)
                else:
                    lost += 1
                    self.assertEqual(tree, "no")
        self.assertGreater(min(reached, lost), 300)

    def test_as_many_are_found_as_there_are_rows_that_do_not_rise(self):
        for values in LARGER:
            tree, rows = most_found(values)
            self.check_tree(tree, len(values))
            found = sorted(helper.found_nodes(tree, values))
            self.assertTrue(rises(values, found))
            self.assertEqual(len(found), len(rows))
            self.assertTrue(is_cover(values, rows))
            self.assertTrue(are_rows(values, rows))
            self.assertTrue(are_rows(values, rows[::-1]))

    def test_rows_that_are_bent(self):
        for values in LARGER[::2]:
            _, rows = most_found(values)
            self.assertFalse(are_rows(values, rows + [rows[0]]))
            self.assertFalse(are_rows(values, rows + [[]]))
            self.assertFalse(are_rows(values, rows[1:]))
            self.assertFalse(are_rows(values, rows + [[len(values)]]))
            for at, row in enumerate(rows):
                if len(row) > 1:
                    self.assertFalse(are_rows(values, rows[:at] + [row[::-1]] + rows[at + 1:]))
                    self.assertTrue(are_rows(values, rows[:at] + [row[:1], row[1:]] + rows[at + 1:]))
                if at > 0:
                    joint = sorted(rows[at - 1] + row)
                    self.assertFalse(are_rows(values, rows[:at - 1] + [joint] + rows[at + 1:]))

    def test_hidden_by(self):
        for values in LARGER:
            for node, value in enumerate(values):
                hiders = [at for at, other in enumerate(values)
                          if at < node and other >= value or at > node and other <= value]
                self.assertEqual(hidden_by(values, node), hiders[0] if hiders else None)


class WrongInputTest(helper.Case):
    def test_no_lists(self):
        for name, call in CALLS.items():
            for values in helper.NO_LISTS:
                with self.subTest(name=name, values=values):
                    self.fails(lambda: call(values), InvalidValues, "node", None)

    def test_values_that_are_no_whole_numbers(self):
        for name, call in CALLS.items():
            for wrong in helper.NO_NUMBERS:
                for node in range(3):
                    values = [5, 6, 7]
                    values[node] = wrong
                    with self.subTest(name=name, wrong=wrong, node=node):
                        self.fails(lambda: call(values), InvalidValues, "node", node)
            self.fails(lambda: call([1, "2", None]), InvalidValues, "node", 1)

    def test_no_nodes(self):
        for wrong in [-1, -3, 3, 4, 64, 10 ** 5000, helper.Same()] + helper.NO_NUMBERS:
            with self.subTest(kind=wrong.__class__):
                self.fails(lambda: hidden_by([1, 2, 3], wrong), UnknownNode, "node", wrong)
                self.fails(lambda: hidden_by([], wrong), UnknownNode, "node", wrong)
        self.fails(lambda: hidden_by([], 0), UnknownNode, "node", 0)

    def test_the_values_are_examined_first(self):
        self.fails(lambda: hidden_by([1, None], 9), InvalidValues, "node", 1)
        self.fails(lambda: hidden_by((1, 2), 9), InvalidValues, "node", None)
        self.fails(lambda: are_rows([True], None), InvalidValues, "node", 0)
        self.fails(lambda: tree_for([True], None), InvalidValues, "node", 0)
        self.fails(lambda: tree_for(None, None), InvalidValues, "node", None)

    def test_any_goal_and_thing_is_answered(self):
        for values in ([], [0], [1], [0, 1, 2], [-1]):
            for thing in helper.ANY_THINGS:
                with self.subTest(values=values, thing=thing):
                    self.assertEqual(tree_for(values, thing), "no")
                    self.assertIs(are_rows(values, thing), False)

    def test_goals_that_only_look_like_numbers(self):
        for goal in ([False, 1], [0, True], (0, 1), {0: 0, 1: 1}, "01", ["0", "1"], [0, None], [[0], [1]], [0, (1,)]):
            self.assertEqual(tree_for([0, 1], goal), "no")
        self.assertNotEqual(tree_for([0, 1], [0, 1]), "no")


class BoundsTest(unittest.TestCase):
    def test_every_call_ends_within_seconds(self):
        for values in LARGER[-9:]:
            begun = time.monotonic()
            tree, rows = most_found(values)
            tree_for(values, representative(tree, values))
            are_rows(values, rows)
            for node in range(len(values)):
                hidden_by(values, node)
            self.assertLess(time.monotonic() - begun, 3)

    def test_the_greatest_number_of_levels_stays_small(self):
        # Blocks of many sizes, with the found value at each place.
        for many in range(1, 65):
            for length in range(1, many + 1):
                for place in {0, length // 2, length - 1}:
                    values, goal = [], []
                    while len(values) < many:
                        block = [2 * len(values) + 1] * place + [2 * len(values)]
                        block += [2 * len(values) - 1] * (length - place - 1)
                        goal.extend([block[place]] * length)
                        values.extend(block)
                    values, goal = values[:many // length * length], goal[:many // length * length]
                    tree = tree_for(values, goal)
                    self.assertLessEqual(levels_of(tree), 20)
                    self.assertEqual(representative(tree, values), goal)

    def test_lists_beyond_the_bounds_raise_no_error(self):
        values = [10 ** 30 - at for at in range(150)]
        self.assertEqual(most_found(values)[1], [list(range(150))])
        self.assertEqual(len(most_found(values[::-1])[1]), 150)
        self.assertEqual(representative(tree_for(values, [values[70]] * 150), values), [values[70]] * 150)


if __name__ == "__main__":
    unittest.main()
