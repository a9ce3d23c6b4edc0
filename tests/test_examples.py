"""The examples of the document, word for word, each run on its own."""

import doctest
import unittest

EXAMPLES = [
    """
>>> from halfsearch.shapes import tree_of
>>> tree_of(2), tree_of(2, rule="lower")
(((None, None), None), (None, (None, None)))
""",
    """
>>> from halfsearch.shapes import tree_of
>>> from halfsearch.shapes import path
>>> path(tree_of(7), 2)
[(3, 'left'), (1, 'right')]
""",
    """
>>> from halfsearch.shapes import tree_of
>>> from halfsearch.searching import find
>>> values = [5, 2, 9, 4, 1, 7, 6]
>>> find(tree_of(7), values, 8), find(tree_of(7), values, 9)
(('found', 3), ('gap', 5))
""",
    """
>>> from halfsearch.shapes import tree_of
>>> from halfsearch.searching import labels
>>> values = [5, 2, 9, 4, 1, 7, 6]
>>> labels(tree_of(7), values)
['high', 'found', 'high', 'found', 'low', 'found', 'low']
""",
    """
>>> from halfsearch.shapes import tree_of
>>> from halfsearch.searching import steps
>>> steps(tree_of(3), [9, 4, 6])
[('gap', None, 4, 0), ('found', 4, 1), ('gap', 4, 6, 2), ('found', 6, 2), ('gap', 6, None, 3)]
""",
    """
>>> from halfsearch.shapes import tree_of
>>> from halfsearch.searching import witness
>>> values = [5, 2, 9, 4, 1, 7, 6]
>>> witness(tree_of(7), values, 0), witness(tree_of(7), values, 5)
(3, None)
""",
    """
>>> from halfsearch.shapes import tree_of
>>> from halfsearch.searching import insertion
>>> insertion(tree_of(3), [1, 1, 1], 2), insertion(tree_of(3), [1, 1, 1], 2, side="right")
(0, 3)
""",
    """
>>> from halfsearch.shapes import tree_of
>>> from halfsearch.alike import alike
>>> alike(tree_of(3), [9, 4, 6], [4, 4, 6]), alike(tree_of(3), [9, 4, 6], [3, 4, 6])
(('alike',), ('apart', 6))
""",
    """
>>> from halfsearch.shapes import tree_of
>>> from halfsearch.alike import breaking, count_alike
>>> breaking(tree_of(3), [9, 4, 6], [5, 10, 6]), count_alike(tree_of(3), [9, 4, 6], 0, 9)
([0, 1], 6)
""",
    """
>>> from halfsearch.shapes import tree_of
>>> from halfsearch.alike import representative
>>> values = [5, 2, 9, 4, 1, 7, 6]
>>> representative(tree_of(7), values)
[2, 2, 4, 4, 4, 7, 7]
""",
    """
>>> from halfsearch.shapes import tree_of
>>> from halfsearch.patterns import blocks, pattern_of
>>> pattern_of(tree_of(7), [1, 4, 2]), blocks(tree_of(2), ["high", "found"])
(['found', 'high', 'dead', 'found', 'low', 'found', 'low'], [2])
""",
    """
>>> from halfsearch.shapes import tree_of
>>> from halfsearch.patterns import count_patterns
>>> count_patterns(tree_of(3))
4
""",
    """
>>> from halfsearch.shapes import tree_of
>>> from halfsearch.patterns import list_for
>>> list_for(tree_of(2), ["high", "found"])
[1, 0]
""",
    """
>>> from halfsearch.shapes import tree_of
>>> from halfsearch.chances import chance_found
>>> chance_found(tree_of(7), 0), chance_found(tree_of(7), 2)
((1, 3), (1, 6))
""",
    """
>>> from halfsearch.shapes import tree_of
>>> from halfsearch.chances import average_found
>>> average_found(tree_of(7)), average_found(tree_of(2))
((3, 1), (3, 2))
""",
    """
>>> from halfsearch.shapes import tree_of
>>> from halfsearch.chances import count_found
>>> count_found(tree_of(3))
[0, 1, 4, 1]
""",
    """
>>> from halfsearch.shapes import tree_of
>>> from halfsearch.chances import count_labels
>>> count_labels(tree_of(3), ["high", "found", "found"])
2
""",
    """
>>> from halfsearch.shapes import tree_of
>>> from halfsearch.wishes import required
>>> required(tree_of(7), [0, 4])
[(0, 1), (0, 3), (0, 4), (0, 5), (3, 4), (3, 5), (4, 5)]
""",
    """
>>> from halfsearch.shapes import tree_of
>>> from halfsearch.wishes import repair
>>> values = [5, 2, 9, 4, 1, 7, 6]
>>> kept, chains = repair(tree_of(7), values, [0])
>>> kept, len(chains)
([1, 3], 2)
""",
    """
>>> from halfsearch.alike import representative
>>> from halfsearch.goals import tree_for
>>> representative(tree_for([3, 1, 2], [1, 1, 2]), [3, 1, 2]), tree_for([3, 1, 2], [1, 2, 2])
([1, 1, 2], 'no')
""",
    """
>>> from halfsearch.goals import hidden_by
>>> hidden_by([1, 5, 3, 9], 0), hidden_by([1, 5, 3, 9], 1)
(None, 2)
""",
    """
>>> from halfsearch.kinds import SearchList
>>> box = SearchList(5, 2, 9)
>>> [box.put(3), box.row, 5 in box, 9 in box, box.found]
[2, [5, 2, 3, 9], False, True, [1, 2, 3]]
""",
    r"""
>>> from halfsearch.shapes import tree_of
>>> from halfsearch.text import format_list
>>> format_list(tree_of(2), [3, -1])
'0 3 high\n1 -1 found'
""",
]


class ExamplesTest(unittest.TestCase):
    def test_examples(self):
        parser = doctest.DocTestParser()
        for at, text in enumerate(EXAMPLES):
            with self.subTest(text=text):
                told = []
                runner = doctest.DocTestRunner(verbose=False)
                results = runner.run(parser.get_doctest(text, {}, f"example {at}", None, 0), out=told.append)
                self.assertGreater(results.attempted, 1)
                self.assertEqual(results.failed, 0, "".join(told))


if __name__ == "__main__":
    unittest.main()
