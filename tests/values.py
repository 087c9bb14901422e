"""Values that several tests use."""

from rowsmeet.boxes import Box
from rowsmeet.books import Book, Row

BIG = 10 ** 12


def other_kinds():
    """Values that are no name, sale, stretch, box, row, rule or index, each made anew.

    None is not among them, as it can stand for all names. Lists and tuples
    are left out where a list is expected: see plain_kinds.
    """
    return plain_kinds() + [[], (), [0], (0,), [[], {}], (None, None)]


def plain_kinds():
    """Values of other kinds, neither lists nor tuples nor None."""
    return [True, False, -1, 10 ** 5000, "", "Abc", "a b", {}, {"a": [1]}, {0: 1}]


def nested(levels):
    """A list within lists, that many levels deep."""
    thing = []
    for level in range(levels):
        thing = [thing, level]
    return thing


def row(price=1, rank=0, **parts):
    """A row with a box of these parts."""
    return Row(Box(**parts), price, rank)


def rows(*prices):
    """A row for each price, for all sales."""
    return [row(price) for price in prices]


def book(*prices):
    """The book of these rows."""
    return Book(rows(*prices))


def prices(some_rows):
    """The list of the prices of rows."""
    return [each.price for each in some_rows]
