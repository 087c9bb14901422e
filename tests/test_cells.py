"""The lots of rows that just apply to some sale."""

import unittest

from rowsmeet.books import Book
from rowsmeet.boxes import is_sale
from rowsmeet.cells import cells
from tests.plain import Plain, ring_cases, some_cases
from tests.values import row


class Cells(unittest.TestCase):
    def check(self, book):
        plain, found = Plain([], book), cells(book)
        self.assertEqual(sorted(lot for lot, sale in found), sorted(plain.cells))
        for lot, sale in found:
            self.assertIs(is_sale(sale), True)
            self.assertEqual(tuple(plain.rows_at(sale)), lot)

    def test_no_row_and_one(self):
        self.check(Book())
        self.check(Book([row()]))
        self.check(Book([row(who="a", what="a", days=(1, 1), amounts=(1, 1))]))

    def test_a_name_that_none_of_six_rows_has(self):
        self.check(Book([row(who=name) for name in "abcdef"]))
        self.check(Book([row(what=name) for name in "gfedcb"]))
        self.check(Book([row(who=name) for name in "abcde"] + [row()]))

    def test_numbers_ahead_of_within_and_behind_stretches(self):
        self.check(Book([row(days=(3, 5)), row(days=(5, 7)), row(days=(6, 6)), row(days=(9, None))]))
        self.check(Book([row(amounts=(1, 1)), row(amounts=(2, 2)), row(amounts=(4, None)), row(amounts=(0, 3))]))

    def test_many_books(self):
        for words, book in some_cases(300, 10) + ring_cases(100, 10):
            self.check(book)


if __name__ == "__main__":
    unittest.main()
