"""Whether the sales of a book, and of all that is left of it when rows are taken out, have a row by pairs."""

from rowsmeet.asking import row_by_pairs
from rowsmeet.boxes import meeting
from rowsmeet.cells import cells
from rowsmeet.checks import check_book
from rowsmeet.rules import beats, check_rule, parts


def common_box(book, lot):
    """The box of the sales to which all rows of the lot apply, None if there are none."""
    return meeting([book[at].box for at in lot])


def do_meet(book, lot):
    """Whether the boxes of the rows of the lot meet."""
    return common_box(book, lot) is not None


def unparted(rule, book):
    """The ascending list of the pairs of unparted rows whose boxes meet."""
    check_rule(rule)
    check_book(book)
    pairs = [(one, other) for one in range(len(book)) for other in range(one + 1, len(book))]
    return [pair for pair in pairs if do_meet(book, pair) and parts(rule, book, pair[0], pair[1]) is None]


def go_round(rule, book, triple):
    """Whether the first row beats the second one, this one the third one, and this one the first one."""
    one, two, three = triple
    return beats(rule, book, one, two) and beats(rule, book, two, three) and beats(rule, book, three, one)


def rings(rule, book):
    """The ascending list of the triples of rows that meet and go in a ring, the least index first."""
    check_rule(rule)
    check_book(book)
    triples = [
        (least, two, three)
        for least in range(len(book)) for two in range(least + 1, len(book)) for three in range(least + 1, len(book))
    ]
    # All of several boxes meet if each two of them do.
    return [triple for triple in triples if do_meet(book, triple) and go_round(rule, book, triple)]


def shaky_lots(rule, book):
    """The lots of unparted rows, and of rows that go in a ring, whose boxes meet."""
    return unparted(rule, book) + [tuple(sorted(ring)) for ring in rings(rule, book)]


def is_firm(rule, book):
    """Whether each sale that has a row has a row by pairs, in the book and in each part of it."""
    return not shaky_lots(rule, book)


def length_and_lot(lot):
    """That by which lots are ordered: their length, then themselves."""
    return (len(lot), lot)


def shaky(rule, book):
    """The first one of the least lots of rows that are not whole, with a sale of all of them; None if it is firm."""
    lots = shaky_lots(rule, book)
    if not lots:
        return None
    lot = min(lots, key=length_and_lot)
    return (lot, common_box(book, lot).a_sale())


def unwhole_sale(rule, book):
    """A sale to which a row applies and that has no row by pairs, None if there is none."""
    check_rule(rule)
    check_book(book)
    for lot, sale in cells(book):
        if lot and row_by_pairs(rule, book, lot) is None:
            return sale
    return None


def is_whole(rule, book):
    """Whether each sale to which a row applies has a row by pairs."""
    return unwhole_sale(rule, book) is None


def all_lots(many):
    """All lots of so many rows, ordered by length, then ascending."""
    lots = [()]
    for at in range(many):
        lots = lots + [(*lot, at) for lot in lots]
    return sorted(lots, key=length_and_lot)


def are_within(lot, other):
    """Whether all rows of one lot are in the other one."""
    return all([at in other for at in lot])


def takes_from_all(taken, lots):
    """Whether a row of each of the lots is taken."""
    return all([any([at in taken for at in lot]) for lot in lots])


def least_taken(rule, book):
    """The list of the least lots of rows without which the book is firm, ordered by length, then ascending."""
    lots = shaky_lots(rule, book)
    least = []
    for taken in all_lots(len(book)):
        if takes_from_all(taken, lots) and not any([are_within(lot, taken) for lot in least]):
            least.append(taken)
    return least
