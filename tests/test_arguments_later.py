"""Each function of the modules from forms on with wrong arguments, and by the names of its parameters."""

import unittest

from rowsmeet import entry, forms, logs, matter, texts, unknown
from rowsmeet.desk import Desk
from rowsmeet.errors import BadRule
from rowsmeet.house import House
from rowsmeet.logs import Log
from rowsmeet.rules import Rule
from tests.argument_checks import (
    A_BOOK, A_LOG, A_ROW, DAY, INDEX, NAME, RECEIPTS, ROW_TEXT, RULE, SALE, SALE_TEXT, SOLD, TEXT, ArgumentChecks,
)
from tests.test_interface import PLACES

# The book of the other arguments is whole by it.
NEWEST = (Rule(["newest"]), BadRule, RULE[2])


def entries(rule, book):
    """The list of what the generator gives."""
    return list(entry.entries(rule=rule, book=book))


def leaves(rule, book):
    """Whether an order leaves each sale its row; no value of an order raises an error."""
    return [entry.leaves(rule=rule, book=book, order=order) for order in [(1, 0, 2), (2, 1, 0), None]]


def entry_at(rule, book):
    """The order with the number 1; NoEntry comes behind all other errors."""
    return entry.entry_at(number=1, rule=rule, book=book)


def house(rule):
    """A new house."""
    return House(strict=True, rule=rule)


def rows_at_desk(text):
    """What a new desk answers."""
    return Desk(strict=True, text=text).reply(line="rows")


FUNCTIONS = [
    (forms.form_of, {"rule": RULE, "book": A_BOOK}),
    (forms.days_told, {"rule": RULE, "book": A_BOOK, "who": NAME, "what": NAME}),
    (forms.tell_alike, {"rule": RULE, "one": A_BOOK, "other": A_BOOK}),
    (forms.changes, {"rule": RULE, "one": A_BOOK, "other": A_BOOK}),
    (forms.parting_sale, {"rule": RULE, "one": A_BOOK, "other": A_BOOK}),
    (matter.wins_at, {"rule": RULE, "book": A_BOOK, "at": INDEX}),
    (matter.left_at, {"rule": RULE, "book": A_BOOK, "at": INDEX}),
    (matter.dead_rows, {"rule": RULE, "book": A_BOOK}),
    (matter.least_lots, {"rule": RULE, "book": A_BOOK}),
    (entry.entry_pairs, {"rule": NEWEST, "book": A_BOOK}),
    (leaves, {"rule": NEWEST, "book": A_BOOK}),
    (entries, {"rule": NEWEST, "book": A_BOOK}),
    (entry.count_entries, {"rule": NEWEST, "book": A_BOOK}),
    (entry_at, {"rule": NEWEST, "book": A_BOOK}),
    (logs.known, {"log": A_LOG, "day": DAY}),
    (logs.told_on, {"rule": RULE, "log": A_LOG, "sale": SALE, "day": DAY}),
    (logs.turns, {"rule": RULE, "log": A_LOG, "sale": SALE}),
    (logs.refunds, {"rule": RULE, "log": A_LOG, "sold": SOLD}),
    (unknown.prices_back, {"rule": RULE, "book": A_BOOK, "at": INDEX, "receipts": RECEIPTS}),
    (texts.rule_text, {"rule": RULE}),
    (texts.row_text, {"row": A_ROW}),
    (texts.sale_text, {"sale": SALE}),
    (texts.read_rule, {"text": TEXT}),
    (texts.read_row, {"text": ROW_TEXT}),
    (texts.read_sale, {"text": SALE_TEXT}),
    (texts.book_text, {"book": A_BOOK}),
    (texts.log_text, {"log": A_LOG}),
    (texts.read_book, {"text": TEXT}),
    (texts.read_log, {"text": TEXT}),
]

# These are no functions themselves.
MADE = [(house, {"rule": RULE}), (rows_at_desk, {"text": TEXT})]


class Arguments(ArgumentChecks, unittest.TestCase):
    functions = FUNCTIONS + MADE

    def test_each_function_is_here(self):
        listed = [name for module in [forms, matter, entry, logs, unknown, texts] for name in PLACES[module]]
        self.assertEqual([name for name in listed if name != "Log"], [function.__name__ for function, kinds in FUNCTIONS])

    def test_a_log_by_the_names_of_its_parameters(self):
        entries_passed = [(2, ("put", A_BOOK[0][0]))]
        self.assertEqual(Log(entries=entries_passed), Log(entries_passed))
        self.assertEqual(Log().with_entry(deed=("put", A_BOOK[0][0]), known=2), Log(entries_passed))

    def test_numbers_beyond_the_limit(self):
        for number in [10 ** 12 + 1, 10 ** 13]:
            self.assertEqual(logs.known(A_LOG[0], number), logs.known(A_LOG[0], 2))
            self.assertEqual(logs.told_on(RULE[0], A_LOG[0], ("a", "a", number, number), number), 5)


if __name__ == "__main__":
    unittest.main()
