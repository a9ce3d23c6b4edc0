"""Lists with their labels as text, one line for each node."""

from halfsearch.basics import check_values
from halfsearch.errors import InvalidText
from halfsearch.searching import labels_of

LABELS = ("dead", "found", "high", "low")
DIGITS = "0123456789"


def is_number(word):
    """Whether a word is a whole number as it is written in a text."""
    digits = word.removeprefix("-")
    if digits == "" or not all([sign in DIGITS for sign in digits]):
        return False
    return word == "0" or not digits.startswith("0")


def is_line(words, node):
    """Whether these are the words of the line of a node."""
    return len(words) == 3 and words[0] == str(node) and is_number(words[1]) and words[2] in LABELS


def format_list(tree, values):
    """The text of values with their labels."""
    check_values(tree, values)
    return "\n".join([f"{node} {values[node]} {label}" for node, label in enumerate(labels_of(tree, values))])


def parse_list(text):
    """The values and the labels of a text."""
    values = []
    labels = []
    # The empty text has no lines; any other text has one more than newlines.
    lines = text.split("\n") if text != "" else []
    for node, line in enumerate(lines):
        words = line.split(" ")
        if not is_line(words, node):
            raise InvalidText(node + 1)
        values.append(int(words[1]))
        labels.append(words[2])
    return (values, labels)
