"""The errors of the package.

The messages never show what was passed: it may be any value, also one that cannot be written as text.
"""


class InvalidTree(ValueError):
    """Something that is not a tree was passed as one."""


class NothingToUndo(LookupError):
    """No change is left that could be taken back."""


class InvalidValues(ValueError):
    """Values are not a list of whole numbers, one for each node."""

    def __init__(self, node):
        ValueError.__init__(self, "the values are not whole numbers, one for each node")
        self.node = node


class InvalidLabels(ValueError):
    """A pattern is not a list of labels, or not a possible one."""

    def __init__(self, node):
        ValueError.__init__(self, "the pattern is not possible")
        self.node = node


class InvalidBlocks(ValueError):
    """Lengths of blocks do not cut the nodes into blocks."""


class UnknownNode(LookupError):
    """Something that is not a node was passed as one."""

    def __init__(self, node):
        LookupError.__init__(self, "there is no such node")
        self.node = node


class UnknownRule(ValueError):
    """A rule of halving has another name."""

    def __init__(self, name):
        ValueError.__init__(self, "the rule is neither upper nor lower")
        self.name = name


class UnknownSide(ValueError):
    """A side has another name."""

    def __init__(self, name):
        ValueError.__init__(self, "the side is neither left nor right")
        self.name = name


class TooMany(ValueError):
    """There are more nodes than the function takes."""

    def __init__(self, count):
        ValueError.__init__(self, "there are too many nodes")
        self.count = count


class InvalidText(ValueError):
    """A line of a text is not written as it must be."""

    def __init__(self, line):
        ValueError.__init__(self, "a line does not hold its number, a value and a label")
        self.line = line
