"""List objects: values that are searched by halving and can be changed, with a way back."""

from halfsearch.basics import check_among, check_row, is_whole
from halfsearch.errors import InvalidValues, NothingToUndo
from halfsearch.searching import find, found_of, insertion, labels_of, search, steps_of
from halfsearch.shapes import halved


class SearchList:
    """A list object with the rule "upper"."""

    RULE = "upper"

    def __init__(self, *values):
        row = list(values)
        check_row(row)
        self._row = row
        # For each call that can be taken back its node and the value that it replaced, or None if it put one in.
        self._past = []

    @classmethod
    def of(cls, row):
        """An object of this class with the values of a list."""
        check_row(row)
        return cls(*row)

    def search(self, twice):
        """How the search for a number ends: ("found", node) or ("gap", gap)."""
        return find(self.tree, self._row, twice)

    def place(self, twice, *, side="left"):
        """The gap into which a number is inserted, on this side of equal values."""
        return insertion(self.tree, self._row, twice, side=side)

    def put(self, value, *, side="left"):
        """Inserts a value at its insertion index, and returns the index."""
        if not is_whole(value):
            raise InvalidValues(None)
        index = self.place(2 * value, side=side)
        self._row.insert(index, value)
        self._past.append((index, None))
        return index

    def change(self, node, value):
        """Replaces a value."""
        check_among(len(self._row), node)
        if not is_whole(value):
            raise InvalidValues(node)
        self._past.append((node, self._row[node]))
        self._row[node] = value

    def undo(self):
        """Takes back the last call of put or change that was not taken back yet."""
        if len(self._past) == 0:
            raise NothingToUndo("there is nothing to take back")
        node, value = self._past.pop()
        if value is None:
            self._row.pop(node)
        else:
            self._row[node] = value

    @property
    def rule(self):
        """The name of the rule."""
        return self.RULE

    @property
    def tree(self):
        """The tree of halving for the number of values."""
        return halved(len(self._row), self.RULE)

    @property
    def row(self):
        """A new list of the values."""
        return list(self._row)

    @property
    def labels(self):
        """The label of each node."""
        return labels_of(self.tree, self._row)

    @property
    def found(self):
        """The ascending list of the nodes that are found."""
        return found_of(self.tree, self._row)

    @property
    def steps(self):
        """The step table."""
        return steps_of(self.tree, self._row)

    def __contains__(self, value):
        return is_whole(value) and search(self.tree, self._row, 2 * value, "end")[1][0] == "found"

    def __len__(self):
        return len(self._row)

    def __eq__(self, other):
        return isinstance(other, SearchList) and self._row == other._row


class LowerList(SearchList):
    """A list object with the rule "lower".

    The interface lists its methods for both classes, so each of them stands here, too.
    """

    RULE = "lower"

    def __init__(self, *values):
        super().__init__(*values)

    @classmethod
    def of(cls, row):
        """An object of this class with the values of a list."""
        check_row(row)
        return cls(*row)

    def search(self, twice):
        """How the search for a number ends: ("found", node) or ("gap", gap)."""
        return super().search(twice)

    def place(self, twice, *, side="left"):
        """The gap into which a number is inserted, on this side of equal values."""
        return super().place(twice, side=side)

    def put(self, value, *, side="left"):
        """Inserts a value at its insertion index, and returns the index."""
        return super().put(value, side=side)

    def change(self, node, value):
        """Replaces a value."""
        super().change(node, value)

    def undo(self):
        """Takes back the last call of put or change that was not taken back yet."""
        super().undo()

    @property
    def rule(self):
        """The name of the rule."""
        return self.RULE

    @property
    def tree(self):
        """The tree of halving for the number of values."""
        return halved(len(self._row), self.RULE)

    @property
    def row(self):
        """A new list of the values."""
        return list(self._row)

    @property
    def labels(self):
        """The label of each node."""
        return labels_of(self.tree, self._row)

    @property
    def found(self):
        """The ascending list of the nodes that are found."""
        return found_of(self.tree, self._row)

    @property
    def steps(self):
        """The step table."""
        return steps_of(self.tree, self._row)

    def __contains__(self, value):
        return is_whole(value) and search(self.tree, self._row, 2 * value, "end")[1][0] == "found"

    def __len__(self):
        return len(self._row)

    def __eq__(self, other):
        return isinstance(other, SearchList) and self._row == other._row
