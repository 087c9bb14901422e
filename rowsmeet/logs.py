"""Logs: what came to be known of rows, on which day, and what is told of sales by what was known."""

from rowsmeet.asking import told
from rowsmeet.books import MOST_ROWS, Book, Row
from rowsmeet.boxes import is_sale
from rowsmeet.checks import check_sale, check_sales
from rowsmeet.errors import BadDay, BadLog, TooMany
from rowsmeet.kinds import is_count, is_index, is_list
from rowsmeet.rules import check_rule

MOST_ENTRIES = 12
MOST_SOLD = 20


def stands(rows, number):
    """Whether the value is the number of a row that stands. Rows that were put and are gone are None."""
    return is_index(number, len(rows)) and rows[number] is not None


def can_be_done(rows, deed):
    """Whether the value is a deed that can be done when just these rows were put."""
    if not isinstance(deed, tuple):
        return False
    if len(deed) == 2 and deed[0] == "put":
        return isinstance(deed[1], Row)
    if len(deed) == 2 and deed[0] == "take":
        return stands(rows, deed[1])
    return len(deed) == 3 and deed[0] == "end" and stands(rows, deed[1]) and is_count(deed[2])


def can_stand(rows, day, entry):
    """Whether the value is an entry that can stand behind one of this day, when just these rows were put."""
    if not isinstance(entry, tuple) or len(entry) != 2:
        return False
    known_day, deed = entry
    return is_count(known_day) and known_day >= day and can_be_done(rows, deed)


def rows_behind(rows, deed):
    """The list of the rows behind a deed, by their numbers."""
    if deed[0] == "put":
        return [*rows, deed[1]]
    number = deed[1]
    left = rows[number].ended(deed[2]) if deed[0] == "end" else None
    return [*rows[:number], left, *rows[number + 1:]]


def check_entries(things):
    """BadLog unless all of a list are entries that can stand there, TooMany if there are too many."""
    if not is_list(things):
        raise BadLog(None)
    rows, day = [], 0
    for at, entry in enumerate(things):
        if not can_stand(rows, day, entry):
            raise BadLog(at)
        day, deed = entry
        rows = rows_behind(rows, deed)
    if len(things) > MOST_ENTRIES:
        raise TooMany(MOST_ENTRIES)
    if len(rows) > MOST_ROWS:
        raise TooMany(MOST_ROWS)


class Log:
    """Up to twelve entries (known, deed), with up to six rows. It never changes."""

    def __init__(self, entries=()):
        check_entries(entries)
        # A plain attribute: no method may have the name of the generator in entry.py.
        self.entries = tuple(entries)

    def __eq__(self, other):
        return isinstance(other, Log) and self.entries == other.entries

    def __len__(self):
        return len(self.entries)

    def with_entry(self, known, deed):
        """The log with this entry behind all others."""
        return Log([*self.entries, (known, deed)])


def check_log(log):
    """BadLog unless the value is a log."""
    if not isinstance(log, Log):
        raise BadLog(None)


def check_day(day):
    """BadDay unless the value is a number from 0 on."""
    if not is_count(day):
        raise BadDay("not a day")


def standing(log, day):
    """The book of the rows that stand by the entries known on a day or earlier (None: all), and their numbers."""
    rows = []
    for known_day, deed in log.entries:
        if day is None or known_day <= day:
            rows = rows_behind(rows, deed)
    numbers = tuple([number for number, row in enumerate(rows) if row is not None])
    return (Book([rows[number] for number in numbers]), numbers)


def known(log, day):
    """The book known on a day, and the ascending tuple of the numbers of its rows."""
    check_log(log)
    check_day(day)
    return standing(log, day)


def told_on(rule, log, sale, day):
    """What the book known on a day tells of the sale."""
    check_rule(rule)
    check_log(log)
    check_sale(sale)
    check_day(day)
    return told(rule, standing(log, day)[0], sale)


def turns(rule, log, sale):
    """The list of pairs (day, told): the day 0, and the days of knowledge at which something else comes to be told."""
    found = [(0, told_on(rule, log, sale, 0))]
    for day, deed in log.entries:
        now = told_on(rule, log, sale, day)
        if now != found[-1][1]:
            found.append((day, now))
    return found


def is_sold(thing):
    """Whether the value is a pair of a sale and a day."""
    return isinstance(thing, tuple) and len(thing) == 2 and is_sale(thing[0]) and is_count(thing[1])


def check_sold(sold):
    """BadSales unless the value is a list of pairs of a sale and a day, TooMany if there are too many."""
    check_sales(sold, is_sold)
    if len(sold) > MOST_SOLD:
        raise TooMany(MOST_SOLD)


def refund(due, paid):
    """What is due less what was paid, None if one of both is no number."""
    return due - paid if is_count(due) and is_count(paid) else None


def refunds(rule, log, sold):
    """For each pair (sale, day) what is told by all entries less what was told on this day, None if there is none."""
    check_rule(rule)
    check_log(log)
    check_sold(sold)
    book = standing(log, None)[0]
    return [refund(told(rule, book, sale), told_on(rule, log, sale, day)) for sale, day in sold]
