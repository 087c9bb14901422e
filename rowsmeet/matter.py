"""Which rows of a book matter: those that count for some sale, and the least lots that tell as much as the book."""

from rowsmeet.asking import by_rounds, row_by_pairs
from rowsmeet.books import check_at
from rowsmeet.cells import cells
from rowsmeet.checks import check_book
from rowsmeet.firmness import all_lots, are_within
from rowsmeet.forms import told_of_lots
from rowsmeet.rules import check_rule


def wins_at(rule, book, at):
    """A sale whose row by pairs this row is, None if there is none."""
    check_rule(rule)
    check_book(book)
    check_at(book, at)
    for lot, sale in cells(book):
        if row_by_pairs(rule, book, lot) == at:
            return sale
    return None


def left_at(rule, book, at):
    """A sale of which this row is left by rounds, None if there is none."""
    check_rule(rule)
    check_book(book)
    check_at(book, at)
    for lot, sale in cells(book):
        if at in by_rounds(rule, book, sale):
            return sale
    return None


def dead_rows(rule, book):
    """The ascending list of the rows that are left of no sale by rounds."""
    check_rule(rule)
    check_book(book)
    return [at for at in range(len(book)) if left_at(rule, book, at) is None]


def least_lots(rule, book):
    """The list of the least lots whose parts tell as much as the book, ordered by length, then ascending."""
    check_rule(rule)
    check_book(book)
    found = told_of_lots(rule, book)
    lots = [lot for lot, sale in cells(book)]
    least = []
    for part in all_lots(len(book)):
        tells_all = all([found[tuple([at for at in lot if at in part])] == found[lot] for lot in lots])
        if tells_all and not any([are_within(lot, part) for lot in least]):
            least.append(part)
    return least
