import random
import re
import time
import unittest

from halfsearch import text as module
from halfsearch.errors import InvalidText, InvalidTree, InvalidValues
from halfsearch.shapes import tree_of
from halfsearch.text import format_list, parse_list
from tests import helper

GREAT = helper.GREAT
LINE = re.compile(r"(0|[1-9][0-9]*) (0|-?[1-9][0-9]*) (dead|found|high|low)")

# Whole lines that may stand as the line of node 1, and such that may not.
GOOD_LINES = ["1 0 found", "1 7 dead", "1 -7 high", "1 10 low", "1 -10 found", "1 99999999999999999999 low",
              "1 -99999999999999999999 low", "1 100 found", "1 9 found"]
BAD_LINES = [
    "", " ", "  ", "1", "1 ", "1 5", "1 5 ", "1  found", " 5 found", "5 found", "found", "1 5 found ", " 1 5 found",
    "1  5 found", "1 5  found", "1 5 found found", "1 5 found 5", "1 1 5 found", "1 5 Found", "1 5 FOUND", "1 5 foun",
    "1 5 founds", "1 5 lost", "1 5 'found'", "1 5 5", "1 5 dead,", "1 5 lowhigh", "0 5 found", "2 5 found",
    "-1 5 found", "01 5 found", "+1 5 found", "1. 5 found", "11 5 found", "one 5 found", "1 05 found", "1 00 found",
    "1 -0 found", "1 -05 found", "1 -00 found", "1 +5 found", "1 --5 found", "1 - found", "1 5- found", "1 5.0 found",
    "1 5e3 found", "1 1_0 found", "1 0x5 found", "1 five found", "1 found 5", "5 1 found", "1,5,found", "1-5 found",
    "1 5-found", "1 -5found", "1 - 5 found", "1 (5) found", "1 None found", "1 True found", "1 ~ found", "1 1,000 low",
    "1 -", "1 - ", "-", "-0 5 found", "1 0- found", "1 !5 found", "1 5 found;", "# 1 5 found",
]


def plain_parse(text):
    """What a text holds, or the number of its first wrong line."""
    values, labels = [], []
    for at, line in enumerate(re.split("\n", text) if text else []):
        match = LINE.fullmatch(line)
        if match is None or int(match.group(1)) != at:
            return at + 1
        values.append(int(match.group(2)))
        labels.append(match.group(3))
    return values, labels


def lists():
    """Trees with values, small ones and such of up to 64 nodes."""
    pairs = [(tree, row) for many in range(4) for tree in helper.all_trees(many) for row in helper.all_lists(many, 3)]
    rng = random.Random(14)
    for tree in helper.larger_trees(rng):
        pairs.extend((tree, row) for row in helper.shaped_lists(rng, helper.numbered(tree)[1]))
    return pairs


LISTS = lists()


class InterfaceTest(helper.Case):
    def test_functions_and_their_parameters(self):
        self.check_interface(module, {"format_list": "(tree, values)", "parse_list": "(text)"})

    def test_arguments_by_name(self):
        self.assertEqual(format_list(values=[3, -1], tree=tree_of(2)), "0 3 high\n1 -1 found")
        self.assertEqual(parse_list(text="0 3 high"), ([3], ["high"]))

    def test_results_are_new_lists_and_arguments_stay(self):
        for tree, values in LISTS[::9]:
            self.gives_new(format_list, tree, values)
            self.gives_new(parse_list, format_list(tree, values))

    def test_kinds_of_values(self):
        result = parse_list("0 3 high")
        self.assertEqual([result.__class__] + [row.__class__ for row in result], [tuple, list, list])
        self.assertEqual([result[0][0].__class__, result[1][0].__class__], [int, str])
        self.assertIs(format_list(None, []).__class__, str)


class FormatTest(unittest.TestCase):
    def test_by_hand(self):
        self.assertEqual(format_list(tree_of(2), [3, -1]), "0 3 high\n1 -1 found")
        self.assertEqual(format_list(None, []), "")
        self.assertEqual(format_list((None, None), [0]), "0 0 found")
        self.assertEqual(format_list(helper.row_right(3), [-GREAT, -GREAT, GREAT]),
                         f"0 -{GREAT} found\n1 -{GREAT} low\n2 {GREAT} found")
        self.assertEqual(format_list(tree_of(7), [5, 2, 9, 4, 5, 4, 6]).split("\n")[4:], ["4 5 dead", "5 4 low", "6 6 found"])

    def test_lines_hold_the_labels_that_searches_show(self):
        for tree, values in LISTS[::5]:
            labels = helper.Shown(tree, values).labels()
            told = [" ".join([str(node), str(values[node]), labels[node]]) for node in range(len(values))]
            self.assertEqual(format_list(tree, values), "\n".join(told))

    def test_what_is_written_is_read_again(self):
        for tree, values in LISTS:
            text = format_list(tree, values)
            self.assertEqual(parse_list(text)[0], values)
            self.assertEqual(parse_list(text), plain_parse(text))


class ParseTest(helper.Case):
    def fails_at(self, text, line):
        self.fails(lambda: parse_list(text), InvalidText)
        with self.assertRaises(InvalidText) as caught:
            parse_list(text)
        self.assertEqual(caught.exception.line, line)
        self.assertIs(caught.exception.line.__class__, int)

    def test_no_nodes(self):
        self.assertEqual(parse_list(""), ([], []))

    def test_labels_need_not_be_those_of_the_values(self):
        self.assertEqual(parse_list("0 1 dead\n1 0 dead\n2 5 high"), ([1, 0, 5], ["dead", "dead", "high"]))

    def test_good_lines(self):
        for line in GOOD_LINES:
            _, value, label = line.split(" ")
            for behind, more in (("", ()), ("\n2 4 low", (4,))):
                values, labels = parse_list("0 3 high\n" + line + behind)
                self.assertEqual((values, labels[:2]), ([3, int(value), *more], ["high", label]))

    def test_bad_lines(self):
        for line in BAD_LINES:
            for before, behind in (("0 3 high\n", ""), ("0 3 high\n", "\n2 4 low"), ("0 3 high\n", "\nx\n")):
                with self.subTest(line=line, behind=behind):
                    self.fails_at(before + line + behind, 2)

    def test_a_bad_first_line(self):
        for line in ("1 5 found", " 0 5 found", "00 5 found", "-0 5 found", "x", " ", "0", "0 5"):
            self.fails_at(line, 1)
            self.fails_at(line + "\n1 5 found", 1)

    def test_newlines_at_the_end_begin_an_empty_line(self):
        self.fails_at("\n", 1)
        self.fails_at("\n0 5 found", 1)
        self.fails_at("0 5 found\n", 2)
        self.fails_at("0 5 found\n1 6 found\n", 3)
        self.fails_at("0 5 found\n\n", 2)
        self.fails_at("0 5 found\n\n1 6 found", 2)

    def test_the_first_bad_line_is_told(self):
        good = [f"{node} {node} found" for node in range(64)]
        for at in range(64):
            lines = good[:at] + ["bad"] + good[at + 1:]
            self.fails_at("\n".join(lines), at + 1)
            self.fails_at("\n".join(lines[:at + 1] + ["", ""]), at + 1)

    def test_lines_with_the_wrong_number(self):
        good = [f"{node} 0 found" for node in range(12)]
        self.fails_at("\n".join(good[1:]), 1)
        self.fails_at("\n".join(good[:5] + good[6:]), 6)
        self.fails_at("\n".join(good[:5] + good[4:]), 6)
        self.fails_at("\n".join(good[:10] + ["010 0 found"]), 11)
        self.fails_at("\n".join(good[:10] + ["1 0 found"]), 11)

    def test_texts_that_are_bent(self):
        rng = random.Random(15)
        signs = "0123456789- \n\n+.xFfoundhighlowdead~!"
        texts = [format_list(tree, values) for tree, values in LISTS if 0 < len(values) < 20]
        wrong = 0
        for _ in range(6000):
            text = rng.choice(texts)
            for _ in range(rng.choice((1, 1, 2))):
                at = rng.randrange(len(text) + 1)
                text = text[:at] + rng.choice(("", rng.choice(signs))) + text[at + rng.choice((0, 1, 1)):]
            told = plain_parse(text)
            if isinstance(told, int):
                wrong += 1
                self.fails_at(text, told)
            else:
                self.assertEqual(parse_list(text), told)
        self.assertTrue(3000 < wrong < 5900, wrong)


class WrongInputTest(helper.Case):
    def test_no_trees(self):
        for thing in helper.NO_TREES:
            self.fails(lambda: format_list(thing, [None]), InvalidTree)

    def test_wrong_values(self):
        for values in helper.NO_LISTS + [[], [1, 2], [1, 2, 3, 4], [None] * 4]:
            self.fails(lambda: format_list(tree_of(3), values), InvalidValues, "node", None)
        for wrong in helper.NO_NUMBERS:
            for node in range(3):
                values = [5, 6, 7]
                values[node] = wrong
                self.fails(lambda: format_list(tree_of(3), values), InvalidValues, "node", node)
        self.fails(lambda: format_list(None, [1]), InvalidValues, "node", None)


class BoundsTest(unittest.TestCase):
    def test_every_call_ends_within_seconds(self):
        for tree in helper.shaped_trees(64):
            begun = time.monotonic()
            values = [-GREAT + at for at in range(64)]
            self.assertEqual(parse_list(format_list(tree, values))[0], values)
            self.assertLess(time.monotonic() - begun, 3)

    def test_lists_beyond_the_bounds_raise_no_error(self):
        values = [10 ** 30 - at for at in range(150)]
        self.assertEqual(parse_list(format_list(helper.row_left(150), values))[0], values)


if __name__ == "__main__":
    unittest.main()
