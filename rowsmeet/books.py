"""Rows that tell prices, and books of them."""

from rowsmeet.boxes import Box
from rowsmeet.errors import BadDay, BadLot, BadRow, BadRows, NoRow, TooMany
from rowsmeet.kinds import are_indexes, is_count, is_index, is_list

MOST_ROWS = 6
RANKS = 10


class Row:
    """A price for the sales in a box, on a list of a rank."""

    def __init__(self, box, price, rank=0):
        if not isinstance(box, Box):
            raise BadRow("box")
        if not is_count(price):
            raise BadRow("price")
        if not is_index(rank, RANKS):
            raise BadRow("rank")
        self.terms = (box, price, rank)

    @property
    def box(self):
        """The box of the sales to which the row applies."""
        return self.terms[0]

    @property
    def price(self):
        """The price."""
        return self.terms[1]

    @property
    def rank(self):
        """The rank of the row's list."""
        return self.terms[2]

    def __eq__(self, other):
        return isinstance(other, Row) and self.terms == other.terms

    def ended(self, day):
        """The row without its days from this day on, None if it has no others."""
        if not is_count(day):
            raise BadDay("not a day")
        box = self.box
        first, last = box.days
        if day <= first:
            return None
        new_last = day - 1 if last is None else min(last, day - 1)
        return Row(Box(box.who, box.what, (first, new_last), box.amounts), self.price, self.rank)


def is_lot(thing, many):
    """Whether the value is an ascending tuple of different indexes of so many rows."""
    return are_indexes(thing, many) and list(thing) == sorted(set(thing))


def is_order(thing, many):
    """Whether the value is a tuple of all indexes of so many rows, each of them once."""
    return are_indexes(thing, many) and sorted(thing) == list(range(many))


def first_no_row(rows):
    """The index of the first item that is no row, None if all are rows."""
    for at, row in enumerate(rows):
        if not isinstance(row, Row):
            return at
    return None


def check_at(book, at):
    """NoRow unless the value is an index of a row of the book."""
    if not is_index(at, len(book)):
        raise NoRow(at)


class Book:
    """Up to six rows, in the order in which they were entered. It never changes."""

    def __init__(self, rows=()):
        if not is_list(rows):
            raise BadRows(None)
        wrong = first_no_row(rows)
        if wrong is not None:
            raise BadRows(wrong)
        if len(rows) > MOST_ROWS:
            raise TooMany(MOST_ROWS)
        self.held = tuple(rows)

    @property
    def rows(self):
        """The tuple of the rows."""
        return self.held

    def __eq__(self, other):
        return isinstance(other, Book) and self.held == other.held

    def __len__(self):
        return len(self.held)

    def __iter__(self):
        return iter(self.held)

    def __contains__(self, x):
        return x in self.held

    def __getitem__(self, at):
        check_at(self, at)
        return self.held[at]

    def __add__(self, other):
        if not isinstance(other, Book):
            raise TypeError("only a book can be put behind a book")
        return Book(self.held + other.held)

    def with_row(self, row):
        """The book with this row entered last."""
        if not isinstance(row, Row):
            raise BadRow("row")
        return Book([*self.held, row])

    def without(self, at):
        """The book without this row."""
        check_at(self, at)
        return Book(self.held[:at] + self.held[at + 1:])

    def with_ended(self, at, day):
        """The book in which this row has lost its days from this day on, and is gone if it had no others."""
        check_at(self, at)
        left = self.held[at].ended(day)
        if left is None:
            return self.without(at)
        return Book([*self.held[:at], left, *self.held[at + 1:]])

    def some(self, lot):
        """The part with just these rows."""
        if not is_lot(lot, len(self.held)):
            raise BadLot("not a lot of rows of the book")
        return Book([self.held[at] for at in lot])

    def entered(self, order):
        """The book with the same rows, entered in this order."""
        if not is_order(order, len(self.held)):
            raise BadLot("not an order of the rows of the book")
        return Book([self.held[at] for at in order])
