"""The examples of the document, word for word, each run on its own."""

import doctest
import unittest

EXAMPLES = [
    """
>>> from halfsearch.shapes import tree_of
>>> tree_of(2), tree_of(2, rule="lower")
(((None, None), None), (None, (None, None)))
""",
    """
>>> from halfsearch.shapes import tree_of
>>> from halfsearch.shapes import path
>>> path(tree_of(7), 2)
[(3, 'left'), (1, 'right')]
""",
    """
>>> from halfsearch.shapes import tree_of
>>> from halfsearch.searching import find
>>> values = [5, 2, 9, 4, 1, 7, 6]
>>> find(tree_of(7), values, 8), find(tree_of(7), values, 9)
(('found', 3), ('gap', 5))
""",
    """
>>> from halfsearch.shapes import tree_of
>>> from halfsearch.searching import labels
>>> values = [5, 2, 9, 4, 1, 7, 6]
>>> labels(tree_of(7), values)
['high', 'found', 'high', 'found', 'low', 'found', 'low']
""",
    """
>>> from halfsearch.shapes import tree_of
>>> from halfsearch.searching import steps
>>> steps(tree_of(3), [9, 4, 6])
[('gap', None, 4, 0), ('found', 4, 1), ('gap', 4, 6, 2), ('found', 6, 2), ('gap', 6, None, 3)]
""",
    """
>>> from halfsearch.shapes import tree_of
>>> from halfsearch.searching import witness
>>> values = [5, 2, 9, 4, 1, 7, 6]
>>> witness(tree_of(7), values, 0), witness(tree_of(7), values, 5)
(3, None)
""",
    """
>>> from halfsearch.shapes import tree_of
>>> from halfsearch.searching import insertion
>>> insertion(tree_of(3), [1, 1, 1], 2), insertion(tree_of(3), [1, 1, 1], 2, side="right")
(0, 3)
""",
]


class ExamplesTest(unittest.TestCase):
    def test_examples(self):
        parser = doctest.DocTestParser()
        for at, text in enumerate(EXAMPLES):
            with self.subTest(text=text):
                told = []
                runner = doctest.DocTestRunner(verbose=False)
                results = runner.run(parser.get_doctest(text, {}, f"example {at}", None, 0), out=told.append)
                self.assertGreater(results.attempted, 1)
                self.assertEqual(results.failed, 0, "".join(told))


if __name__ == "__main__":
    unittest.main()
