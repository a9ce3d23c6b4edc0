import copy
import inspect
import random
import time
import unittest

from halfsearch import kinds as module
from halfsearch.errors import InvalidValues, NothingToUndo, UnknownNode, UnknownSide
from halfsearch.kinds import LowerList, SearchList
from tests import helper

GREAT = helper.GREAT
KINDS = ((SearchList, "upper"), (LowerList, "lower"))
METHODS = {"search": "(self, twice)", "place": "(self, twice, *, side='left')", "put": "(self, value, *, side='left')",
           "change": "(self, node, value)", "undo": "(self)", "__contains__": "(self, value)", "__len__": "(self)",
           "__eq__": "(self, other)"}
PROPERTIES = ("rule", "tree", "row", "labels", "found", "steps")


def rows():
    """Small lists, and lists of every kind of up to 64 values."""
    lists = [row for many, top in ((0, 1), (1, 2), (2, 3), (3, 3), (4, 3)) for row in helper.all_lists(many, top)]
    rng = random.Random(16)
    for many in (5, 6, 8, 13, 31, 64):
        lists.extend(helper.shaped_lists(rng, many))
    return lists


ROWS = rows()


def state(box):
    """All that an object tells of itself."""
    return [box.rule, box.tree, box.row, box.labels, box.found, box.steps, len(box)]


class InterfaceTest(helper.Case):
    def test_each_class_has_each_method_itself(self):
        for kind, _ in KINDS:
            self.assertEqual(kind.__module__, module.__name__)
            for name, parameters in METHODS.items():
                self.assertEqual(str(inspect.signature(vars(kind)[name])), parameters)
            for name in PROPERTIES:
                self.assertIsInstance(vars(kind)[name], property)
            self.assertIsInstance(vars(kind)["of"], classmethod)
            self.assertEqual(str(inspect.signature(kind.of)), "(row)")
            self.assertEqual(str(inspect.signature(kind)), "(*values)")

    def test_classes(self):
        self.assertEqual((SearchList.__bases__, LowerList.__bases__), ((object,), (SearchList,)))

    def test_arguments_by_name(self):
        for kind, _ in KINDS:
            box = kind.of(row=[5, 2, 9])
            self.assertEqual(box.search(twice=4), ("found", 1))
            self.assertEqual(box.place(side="right", twice=4), 2)
            self.assertEqual(box.put(side="right", value=2), 2)
            self.assertIsNone(box.change(value=7, node=0))
            self.assertEqual(box.row, [7, 2, 2, 9])

    def test_the_side_is_passed_by_keyword_only(self):
        for kind, _ in KINDS:
            for call in (lambda: kind(1).place(2, "left"), lambda: kind(1).put(2, "left")):
                with self.assertRaises(TypeError):
                    call()

    def test_properties_are_read_only(self):
        for kind, _ in KINDS:
            box = kind(5, 2, 9)
            told = state(box)
            for name in PROPERTIES:
                with self.assertRaises(AttributeError):
                    setattr(box, name, getattr(box, name))
                with self.assertRaises(AttributeError):
                    delattr(box, name)
            self.assertEqual(state(box), told)


class ObjectTest(helper.Case):
    def test_the_example(self):
        box = SearchList(5, 2, 9)
        self.assertEqual([box.put(3), box.row, 5 in box, 9 in box, box.found], [2, [5, 2, 3, 9], False, True, [1, 2, 3]])

    def test_the_rules_differ(self):
        upper, lower = SearchList(2, 1), LowerList(2, 1)
        self.assertEqual((upper.rule, upper.tree), ("upper", ((None, None), None)))
        self.assertEqual((lower.rule, lower.tree), ("lower", (None, (None, None))))
        self.assertEqual((upper.labels, lower.labels), (["high", "found"], ["found", "low"]))
        self.assertEqual((1 in upper, 2 in upper, 1 in lower, 2 in lower), (True, False, False, True))
        self.assertEqual((upper.place(3), lower.place(3)), (2, 0))

    def test_no_values(self):
        for kind, rule in KINDS:
            for box in (kind(), kind.of([])):
                self.assertEqual(state(box), [rule, None, [], [], [], [("gap", None, None, 0)], 0])
                self.assertEqual((box.search(0), box.place(7), 0 in box), (("gap", 0), 0, False))
                self.assertEqual((box.put(4), box.row), (0, [4]))

    def test_objects_tell_what_searches_show(self):
        for row in ROWS:
            for kind, rule in KINDS:
                box = kind(*row)
                tree = helper.halved(row, rule)
                shown = helper.Shown(tree, row)
                told = [rule, tree, row, shown.labels(), shown.found(), shown.steps(), len(row)]
                self.assertEqual(state(box), told)
                self.assertEqual(state(kind.of(row)), told)
                for number, (_, ending) in list(zip(shown.probes, shown.sent))[::1 + len(row) // 9]:
                    self.assertEqual(box.search(int(2 * number)), ending)
                    self.assertEqual(box.place(int(2 * number)), shown.insertion(number, "left"))
                    self.assertEqual(box.place(int(2 * number), side="left"), shown.insertion(number, "left"))
                    self.assertEqual(box.place(int(2 * number), side="right"), shown.insertion(number, "right"))
                    if number.denominator == 1:
                        self.assertIs(int(number) in box, ending[0] == "found")

    def test_of_gives_an_object_of_its_class(self):
        class Own(LowerList):
            pass

        for kind in (SearchList, LowerList, Own):
            self.assertIs(kind.of([1, 2]).__class__, kind)
            self.assertIs(kind(1, 2).of([3]).__class__, kind)
        self.assertEqual(Own.of([1, 2]).rule, "lower")

    def test_only_whole_numbers_are_in_an_object(self):
        for kind, _ in KINDS:
            box = kind(0, 1)
            self.assertEqual([0 in box, 1 in box, 2 in box, -1 in box, 10 ** 5000 in box], [True, True] + [False] * 3)
            for thing in helper.NO_NUMBERS + [helper.Same(), box]:
                self.assertIs(thing in box, False)

    def test_equality(self):
        for kind, _ in KINDS:
            for other, _ in KINDS:
                self.assertTrue(kind(3, 1, 2) == other(3, 1, 2))
                self.assertFalse(kind(3, 1, 2) != other(3, 1, 2))
                self.assertTrue(kind() == other())
                self.assertFalse(kind(3, 1, 2) == other(1, 2, 3))
                self.assertTrue(kind(3, 1, 2) != other(3, 1))
                self.assertFalse(kind() == other(0))
            for thing in ([3, 1], (3, 1), None, 3, "31", {}, object(), kind):
                self.assertIs(kind(3, 1) == thing, False)
                self.assertIs(thing == kind(3, 1), False)
                self.assertIs(kind(3, 1) != thing, True)
            box = kind(3)
            box.put(5)
            self.assertTrue(box == kind(3, 5))

    def test_objects_are_apart_from_what_they_are_given(self):
        for kind, _ in KINDS:
            row = [5, 2, 9]
            box = kind.of(row)
            twin = kind.of(box.row)
            row.append(3)
            row[0] = 7
            self.assertEqual(box.row, [5, 2, 9])
            box.put(1)
            box.change(0, 8)
            self.assertEqual((row, twin.row), ([7, 2, 9, 3], [5, 2, 9]))

    def test_what_is_read_is_new(self):
        for kind, _ in KINDS:
            for row in ROWS[::40] + [[5, 2, 9]]:
                box = kind.of(row)
                told = copy.deepcopy(state(box))
                for name in ("row", "labels", "found", "steps"):
                    first, second = getattr(box, name), getattr(box, name)
                    self.assertIs(first.__class__, list)
                    self.assertIsNot(first, second)
                    first.append("more")
                    first[0] = "other"
                    self.assertEqual(getattr(box, name), second)
                self.assertEqual(state(box), told)

    def test_great_values(self):
        for kind, _ in KINDS:
            box = kind(GREAT, -GREAT)
            self.assertEqual([box.put(GREAT - 1), box.put(-GREAT - 1), len(box)],
                             [kind(GREAT, -GREAT).place(2 * GREAT - 2), box.row.index(-GREAT - 1), 4])
            box.change(0, -GREAT - 1)
            self.assertEqual(box.search(-2 * GREAT - 2)[0], "found")


class ChangeTest(helper.Case):
    def test_put_inserts_at_the_insertion_index(self):
        for row in ROWS:
            for kind, rule in KINDS:
                shown = helper.Shown(helper.halved(row, rule), row)
                for value in sorted({row[0] - 1, row[0], row[-1], max(row) + 1} if row else {3}):
                    for side in ("left", "right"):
                        box = kind.of(row)
                        index = box.put(value, side=side)
                        self.assertEqual(index, shown.insertion(value, side))
                        self.assertEqual(box.row, row[:index] + [value] + row[index:])
                        self.assertEqual(box.tree, helper.halved(box.row, rule))
                        self.assertEqual(helper.falls(box.row), helper.falls(row))
                    self.assertEqual(kind.of(row).put(value), shown.insertion(value, "left"))

    def test_equal_values_are_put_on_their_side(self):
        for kind, _ in KINDS:
            box = kind(4, 4, 4)
            self.assertEqual([box.put(4), box.put(4, side="right"), box.put(4, side="left")], [0, 4, 0])

    def test_change_replaces_a_value(self):
        for kind, _ in KINDS:
            box = kind(5, 2, 9)
            self.assertIs(box.change(1, 7), None)
            self.assertEqual((box.row, box.found), ([5, 7, 9], [0, 1, 2]))
            self.assertIs(box.change(0, 5), None)
            self.assertEqual(box.row, [5, 7, 9])

    def test_undo_takes_back_the_last_call(self):
        for kind, _ in KINDS:
            box = kind(5, 2, 9)
            box.put(3)
            box.change(0, 8)
            box.change(0, 8)
            box.put(8, side="right")
            for row in ([8, 2, 3, 9], [8, 2, 3, 9], [5, 2, 3, 9], [5, 2, 9]):
                self.assertIs(box.undo(), None)
                self.assertEqual(box.row, row)
            self.fails(box.undo, NothingToUndo)
            box.put(6)
            box.undo()
            self.fails(box.undo, NothingToUndo)
            self.assertEqual(box.row, [5, 2, 9])

    def test_a_new_object_has_nothing_to_undo(self):
        for kind, _ in KINDS:
            for box in (kind(), kind(1, 2), kind.of([1, 2])):
                told = state(box)
                self.fails(box.undo, NothingToUndo)
                self.assertEqual(state(box), told)

    def test_reading_is_nothing_to_undo(self):
        for kind, _ in KINDS:
            box = kind(5, 2, 9)
            box.change(1, 0)
            state(box)
            box.search(4)
            box.place(4)
            self.assertTrue(box == kind(5, 0, 9) and 5 not in box)
            box.undo()
            self.assertEqual(box.row, [5, 2, 9])

    def test_undo_puts_back_zero(self):
        for kind, _ in KINDS:
            box = kind(0, 0)
            box.change(0, 4)
            box.undo()
            self.assertEqual(box.row, [0, 0])

    def test_many_calls_in_a_row(self):
        rng = random.Random(17)
        for kind, rule in KINDS:
            for _ in range(40):
                row = [rng.randint(0, 9) for _ in range(rng.randint(0, 12))]
                box = kind.of(row)
                past = []
                for _ in range(60):
                    self.do_one(rng, box, rule, row, past)
                    self.assertEqual(box.row, row)
                self.assertEqual(box.labels, helper.Shown(helper.halved(row, rule), row).labels())
                while past:
                    row = past.pop()
                    box.undo()
                    self.assertEqual(box.row, row)
                self.fails(box.undo, NothingToUndo)

    def do_one(self, rng, box, rule, row, past):
        """Calls a method, wrongly at times, and does the same with a plain list and its earlier states."""
        value = rng.randint(-1, 10)
        way = rng.choice(("put", "change", "undo", "wrong"))
        if way == "put" and len(row) < 40:
            side = rng.choice(("left", "right"))
            index = helper.Shown(helper.halved(row, rule), row).insertion(value, side)
            past.append(list(row))
            row.insert(index, value)
            self.assertEqual(box.put(value, side=side), index)
        elif way == "change" and row:
            node = rng.randrange(len(row))
            past.append(list(row))
            row[node] = value
            box.change(node, value)
        elif way == "undo" and past:
            row[:] = past.pop()
            box.undo()
        elif way == "wrong":
            self.fails(lambda: box.put(None), InvalidValues, "node", None)
            self.fails(lambda: box.put(value, side="up"), UnknownSide, "name", "up")
            self.fails(lambda: box.change(len(row), value), UnknownNode, "node", len(row))
            if row:
                self.fails(lambda: box.change(0, "1"), InvalidValues, "node", 0)


class WrongInputTest(helper.Case):
    def test_wrong_values_of_a_new_object(self):
        for kind, _ in KINDS:
            for wrong in helper.NO_NUMBERS + [helper.Same()]:
                for node in range(3):
                    row = [5, 6, 7]
                    row[node] = wrong
                    self.fails(lambda: kind(*row), InvalidValues, "node", node)
                    self.fails(lambda: kind.of(row), InvalidValues, "node", node)
            self.fails(lambda: kind(1, "2", None), InvalidValues, "node", 1)
            self.fails(lambda: kind([1, 2]), InvalidValues, "node", 0)

    def test_of_takes_lists_only(self):
        for kind, _ in KINDS:
            for row in helper.NO_LISTS + [kind(1, 2)]:
                self.fails(lambda: kind.of(row), InvalidValues, "node", None)

    def check_unchanged(self, box, call, error, field, told):
        """A call that fails changes nothing, and leaves nothing to undo."""
        before = copy.deepcopy(state(box))
        self.fails(call, error, field, told)
        self.assertEqual(state(box), before)
        self.fails(box.undo, NothingToUndo)

    def test_put_of_no_whole_number(self):
        for kind, _ in KINDS:
            box = kind(5, 2, 9)
            for wrong in helper.NO_NUMBERS + [helper.Same()]:
                for side in ("left", "right", "up", None):
                    self.check_unchanged(box, lambda: box.put(wrong, side=side), InvalidValues, "node", None)

    def test_unknown_sides(self):
        for kind, _ in KINDS:
            for box in (kind(5, 2, 9), kind()):
                for side in helper.NO_NAMES + ["upper", "end", helper.Same()]:
                    self.check_unchanged(box, lambda: box.put(4, side=side), UnknownSide, "name", side)
                    self.check_unchanged(box, lambda: box.place(4, side=side), UnknownSide, "name", side)

    def test_change_of_no_node(self):
        for kind, _ in KINDS:
            for row in ([5, 2, 9], []):
                box = kind.of(row)
                for node in [-1, -3, 3, 4, 64, 10 ** 5000, helper.Same()] + helper.NO_NUMBERS:
                    for value in (4, None):
                        self.check_unchanged(box, lambda: box.change(node, value), UnknownNode, "node", node)

    def test_change_to_no_whole_number(self):
        for kind, _ in KINDS:
            box = kind(5, 2, 9)
            for node in range(3):
                for wrong in helper.NO_NUMBERS + [helper.Same()]:
                    self.check_unchanged(box, lambda: box.change(node, wrong), InvalidValues, "node", node)

    def test_errors_take_back_nothing(self):
        for kind, _ in KINDS:
            box = kind(5, 2, 9)
            box.change(0, 6)
            self.fails(lambda: box.put("7"), InvalidValues, "node", None)
            self.fails(lambda: box.put(7, side="end"), UnknownSide, "name", "end")
            self.fails(lambda: box.change(3, 7), UnknownNode, "node", 3)
            self.fails(lambda: box.change(1, "7"), InvalidValues, "node", 1)
            self.assertEqual(box.row, [6, 2, 9])
            box.undo()
            self.assertEqual(box.row, [5, 2, 9])


class BoundsTest(unittest.TestCase):
    def test_every_call_ends_within_seconds(self):
        for kind, _ in KINDS:
            for row in helper.shaped_lists(random.Random(18), 63):
                begun = time.monotonic()
                box = kind(*row)
                box.put(GREAT)
                state(box)
                self.assertEqual((len(box), box.search(2 * row[0])[0] == "found"), (64, row[0] in box))
                box.change(63, -GREAT)
                box.undo()
                box.undo()
                self.assertEqual(box.row, row)
                self.assertLess(time.monotonic() - begun, 3)

    def test_many_calls_can_be_taken_back(self):
        for kind, _ in KINDS:
            box = kind(*range(64))
            for at in range(5000):
                box.change(at % 64, at)
            for _ in range(5000):
                box.undo()
            self.assertEqual(box.row, list(range(64)))

    def test_objects_beyond_the_bounds_raise_no_error(self):
        for kind, _ in KINDS:
            box = kind(*range(150))
            self.assertEqual((box.put(10 ** 30), box.found), (150, list(range(151))))


if __name__ == "__main__":
    unittest.main()
