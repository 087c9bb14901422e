"""A live book: rows are put, ended and taken, and what was done can be taken back."""

from rowsmeet.asking import by_pairs, told
from rowsmeet.books import Book
from rowsmeet.boxes import is_sale
from rowsmeet.checks import check_sales
from rowsmeet.errors import NothingDone, Shaky
from rowsmeet.firmness import shaky
from rowsmeet.rules import check_rule


class Block:
    """What was done in a house ahead of a block of it, and the block around this one (None: there is none)."""

    def __init__(self, done_ahead, outer):
        self.done_ahead = done_ahead
        self.outer = outer


class House:
    """A book by a rule, without rows at first; a strict house refuses deeds behind which it would not be firm."""

    def __init__(self, rule, strict=False):
        check_rule(rule)
        self.own_rule = rule
        self.is_strict = strict
        # Pairs (deed, book behind it), the first one for the new house. Each deed makes a new tuple, so that
        # blocks and copies can hold on to an old one.
        self.done = ((None, Book()),)
        self.block = None

    @property
    def rule(self):
        """The rule."""
        return self.own_rule

    @property
    def strict(self):
        """Whether the house is strict."""
        return self.is_strict

    @property
    def book(self):
        """The book behind all deeds that stand."""
        return self.done[-1][1]

    @property
    def deeds(self):
        """The list of the deeds that stand."""
        return [deed for deed, book_behind in self.done[1:]]

    def __eq__(self, other):
        if not isinstance(other, House):
            return False
        return self.rule == other.rule and self.strict == other.strict and self.deeds == other.deeds

    def __call__(self, sale):
        return told(self.rule, self.book, sale)

    def __iadd__(self, other):
        self.put(other)
        return self

    def __enter__(self):
        self.block = Block(self.done, self.block)
        return self

    def __exit__(self, kind, value, trace):
        if kind is not None:
            self.done = self.block.done_ahead
        self.block = self.block.outer

    def add_deed(self, deed, book_behind):
        """The deed stands from now on, unless the house is strict and the book behind it is not firm."""
        found = shaky(self.rule, book_behind) if self.strict else None
        if found is not None:
            raise Shaky(found[0])
        self.done = (*self.done, (deed, book_behind))

    def put(self, row):
        """This row is entered last."""
        self.add_deed(("put", row), self.book.with_row(row))

    def take(self, at):
        """This row goes."""
        self.add_deed(("take", at), self.book.without(at))

    def end(self, at, day):
        """This row loses its days from this day on, and goes if it has no others."""
        self.add_deed(("end", at, day), self.book.with_ended(at, day))

    def undo(self):
        """The last deed that stands is taken back."""
        if len(self.done) == 1:
            raise NothingDone("no deed stands")
        self.done = self.done[:-1]

    def row_of(self, sale):
        """The index of the row by pairs of the sale, None if there is none."""
        return by_pairs(self.rule, self.book, sale)

    def news(self, sales):
        """The ascending list of the indexes of the sales of which the last deed that stands changed what is told."""
        check_sales(sales, is_sale)
        before = self.copy()
        before.undo()
        rule, old, new = self.rule, before.book, self.book
        return [at for at, sale in enumerate(sales) if told(rule, old, sale) != told(rule, new, sale)]

    def copy(self):
        """An independent house in the same state, in no block."""
        same = House(self.rule, self.strict)
        same.done = self.done
        return same

    def tried(self, work):
        """The result of work, called with the house in a block of it."""
        with self as house:
            return work(house)
