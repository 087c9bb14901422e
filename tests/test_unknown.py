"""The prices of a row with which all receipts are as they are."""

import random
import unittest

from rowsmeet.books import Book, Row
from rowsmeet.boxes import Box
from rowsmeet.errors import BadBook, BadReceipts, BadRule, NoRow, TooMany
from rowsmeet.rules import Rule
from rowsmeet.unknown import prices_back
from tests.plain import Plain, end_sales, some_cases
from tests.values import BIG, book, nested, other_kinds, plain_kinds, row

SALE, RULE = ("ann", "tea", 3, 2), Rule(["cheapest"])
RECEIPT = (SALE, 5)

# Behind these numbers all prices of the drawn cases, and what their receipts say, are told alike.
MOST = 12


def with_price(some_book, at, price):
    """The book with another price of a row."""
    rows = list(some_book.rows)
    rows[at] = Row(rows[at].box, price, rows[at].rank)
    return Book(rows)


def plain_prices(words, some_book, at, receipts):
    """The stretches of prices, found by trying each of them."""
    stretches = []
    for price in range(MOST + 1):
        plain = Plain(words, with_price(some_book, at, price))
        if all(plain.told_of(tuple(plain.rows_at(sale))) == said for sale, said in receipts):
            if stretches and stretches[-1][1] == price - 1:
                stretches[-1] = (stretches[-1][0], price)
            else:
                stretches.append((price, price))
    return [(first, None if last == MOST else last) for first, last in stretches]


class Prices(unittest.TestCase):
    def test_a_price(self):
        self.assertEqual(prices_back(RULE, book(9), 0, [RECEIPT]), [(5, 5)])
        self.assertEqual(prices_back(RULE, book(9, 7), 0, [RECEIPT]), [(5, 5)])
        self.assertEqual(prices_back(RULE, book(9, 7), 1, [(SALE, 0)]), [(0, 0)])
        self.assertEqual(prices_back(RULE, book(9, 7), 1, [(SALE, 9)]), [(9, None)])
        self.assertEqual(prices_back(RULE, book(9, 7), 0, [(SALE, 7)]), [(7, None)])
        self.assertEqual(prices_back(RULE, book(9, 7), 0, [(SALE, 8)]), [])
        self.assertEqual(prices_back(Rule(["dearest"]), book(9, 7), 0, [(SALE, 7)]), [(0, 7)])
        self.assertEqual(prices_back(Rule(["dearest"]), book(9, 0), 0, [(SALE, 0)]), [(0, 0)])

    def test_open(self):
        self.assertEqual(prices_back(Rule(), book(9, 7), 0, [(SALE, "open")]), [(0, 6), (8, None)])
        self.assertEqual(prices_back(Rule(), book(9, 7), 0, [(SALE, 7)]), [(7, 7)])
        self.assertEqual(prices_back(Rule(), book(9, 0), 0, [(SALE, "open")]), [(1, None)])
        self.assertEqual(prices_back(Rule(), book(9, 7, 8), 0, [(SALE, "open")]), [(0, None)])
        self.assertEqual(prices_back(Rule(), book(9), 0, [(SALE, "open")]), [])
        self.assertEqual(prices_back(Rule(["cheapest"]), book(9, 7), 0, [(SALE, "open")]), [])

    def test_none(self):
        bob = Book([row(9, who="bob")])
        self.assertEqual(prices_back(RULE, bob, 0, [(SALE, "none")]), [(0, None)])
        self.assertEqual(prices_back(RULE, bob, 0, [RECEIPT]), [])
        self.assertEqual(prices_back(RULE, book(9), 0, [(SALE, "none")]), [])

    def test_no_receipts(self):
        for receipts in [[], ()]:
            for at in range(3):
                self.assertEqual(prices_back(RULE, book(9, 7, 5), at, receipts), [(0, None)])

    def test_receipts_that_contradict_one_another(self):
        self.assertEqual(prices_back(RULE, book(9), 0, [RECEIPT, (SALE, 6)]), [])
        self.assertEqual(prices_back(RULE, book(9), 0, [RECEIPT, (SALE, "none")]), [])
        self.assertEqual(prices_back(RULE, book(9), 0, [RECEIPT, (SALE, "open")]), [])
        self.assertEqual(prices_back(RULE, book(9), 0, [RECEIPT, RECEIPT]), [(5, 5)])

    def test_receipts_that_agree_in_part(self):
        # Just 4 by the first receipt, not 9 by the second one, and any by the third one.
        three = Book([row(0, days=(0, 2)), row(4, days=(0, 0)), row(9, days=(1, 1)), row(6, 1, days=(2, 2))])
        receipts = [(("a", "a", 0, 0), 4), (("a", "a", 1, 0), "open"), (("a", "a", 2, 0), 6)]
        self.assertEqual(prices_back(Rule(["highest"]), three, 0, receipts), [(4, 4)])
        self.assertEqual(prices_back(Rule(["highest"]), three, 0, receipts[1:]), [(0, 8), (10, None)])

    def test_a_row_that_does_not_matter_to_any_receipt(self):
        some_book = Book([row(9), row(5, 1), row(3, who="bob")])
        rule = Rule(["highest"])
        for at in [0, 2]:
            self.assertEqual(prices_back(rule, some_book, at, [RECEIPT]), [(0, None)])
            self.assertEqual(prices_back(rule, some_book, at, [(SALE, 6)]), [])
        self.assertEqual(prices_back(rule, some_book, 2, [(("bob", "tea", 3, 2), 5)]), [(0, None)])

    def test_prices_with_a_gap(self):
        some_book = Book([row(0), row(4, who="ann"), row(8, what="tea")])
        self.assertEqual(prices_back(RULE, some_book, 0, [(("ann", "x", 0, 0), 4)]), [(4, None)])
        self.assertEqual(prices_back(Rule(["narrowest"]), some_book, 0, [(SALE, "open")]), [(0, None)])
        gap = Book([row(6, days=(0, 1)), row(6, days=(0, 0)), row(3, days=(1, 1))])
        receipts = [(("a", "a", 0, 0), "open"), (("a", "a", 1, 0), "open")]
        self.assertEqual(prices_back(Rule(), gap, 0, receipts), [(0, 2), (4, 5), (7, None)])

    def test_numbers_at_the_limit(self):
        self.assertEqual(prices_back(RULE, book(9, BIG), 0, [(SALE, BIG)]), [(BIG, None)])
        self.assertEqual(prices_back(Rule(["dearest"]), book(9, BIG), 0, [(SALE, BIG)]), [(0, BIG)])
        self.assertEqual(prices_back(Rule(), book(9, BIG), 0, [(SALE, "open")]), [(0, BIG - 1), (BIG + 1, None)])
        self.assertEqual(prices_back(RULE, book(9), 0, [(SALE, BIG + 1)]), [(BIG + 1, BIG + 1)])

    def test_the_price_that_the_row_has_does_not_matter(self):
        for words, some_book in some_cases(30, 61)[1:]:
            for at in range(len(some_book)):
                sale = end_sales([each.box for each in some_book])[-1]
                found = [prices_back(Rule(words), with_price(some_book, at, price), at, [(sale, 5)]) for price in [0, 5, 99]]
                self.assertEqual(found, [found[0]] * 3)

    def test_many_books_against_a_plain_search(self):
        chance, empty, several = random.Random(62), 0, 0
        for words, some_book in some_cases(160, 62):
            if len(some_book) == 0:
                continue
            at = chance.randrange(len(some_book))
            true = Plain(words, with_price(some_book, at, chance.choice([0, 1, 3, 4, 5, 6, 9])))
            receipts = []
            for sale in chance.sample(end_sales([each.box for each in some_book]), chance.choice([0, 1, 2, 2, 4])):
                said = true.told_of(tuple(true.rows_at(sale)))
                receipts.append((sale, said if chance.random() < 0.9 else chance.choice(["none", "open", 0, 5, 8])))
            expected = plain_prices(words, some_book, at, receipts)
            empty += not expected
            several += len(expected) > 1 or (len(expected) == 1 and expected != [(0, None)])
            self.assertEqual(prices_back(Rule(words), some_book, at, receipts), expected)
        self.assertTrue(empty > 5 and several > 15, (empty, several))


class Wrong(unittest.TestCase):
    def assert_bad(self, receipts, at):
        with self.assertRaises(BadReceipts, msg=receipts) as caught:
            prices_back(RULE, book(9), 0, receipts)
        self.assertEqual((caught.exception.at, caught.exception.at.__class__), (at, at.__class__))

    def test_twenty_and_twenty_one_receipts(self):
        for receipts in [[RECEIPT] * 20, (RECEIPT,) * 20]:
            self.assertEqual(prices_back(RULE, book(9), 0, receipts), [(5, 5)])
        for many in [21, 22, 50]:
            with self.assertRaises(TooMany) as caught:
                prices_back(RULE, book(9), 0, [RECEIPT] * many)
            self.assertEqual(caught.exception.most, 20)
            self.assert_bad([RECEIPT] * many + [None], many)
            self.assert_bad([None] + [RECEIPT] * many, 0)

    def test_values_that_are_no_list(self):
        for wrong in plain_kinds() + [None, 0, "none", {0: RECEIPT}, book(5), Box(), RULE, b"ab"]:
            self.assert_bad(wrong, None)

    def test_items_that_are_no_receipts(self):
        wrongs = other_kinds() + [
            None, 5, SALE, [SALE, 5], (SALE,), (SALE, 5, 5), (5, SALE), (list(SALE), 5), (SALE[:3], 5), (None, 5), (SALE, None),
            (SALE, -1), (SALE, True), (SALE, False), (SALE, "5"), (SALE, ""), (SALE, "None"), (SALE, "none "), (SALE, "opened"),
            (SALE, (5,)), (SALE, [5]), (SALE, ["none"]), (SALE, ("none", "open")), (SALE, book(5)), (SALE, b"none"),
            (SALE, nested(18)), (("Ann", "tea", 3, 2), 5), (("ann", None, 3, 2), 5), book(5), RULE, row(), nested(20), b"ab"]
        for wrong in wrongs:
            for at in range(3):
                self.assert_bad([RECEIPT] * at + [wrong] + [RECEIPT] * 2, at)
        self.assert_bad(RECEIPT, 0)
        self.assert_bad([RECEIPT, None, SALE], 1)

    def test_the_order_of_the_errors(self):
        self.assertRaises(BadRule, prices_back, None, None, None, None)
        self.assertRaises(BadBook, prices_back, RULE, None, None, None)
        self.assertRaises(NoRow, prices_back, RULE, book(9), 1, None)
        self.assertRaises(NoRow, prices_back, RULE, Book(), 0, [])
        self.assertRaises(BadReceipts, prices_back, RULE, book(9), 0, None)

    def test_what_is_passed_is_not_changed(self):
        some_book, receipts = book(9, 7), [RECEIPT, (SALE, "open")]
        found = prices_back(Rule(), some_book, 0, receipts[1:])
        found.append(1)
        prices_back(Rule(), some_book, 0, receipts)
        self.assertEqual((some_book, receipts), (book(9, 7), [RECEIPT, (SALE, "open")]))
        self.assertEqual(prices_back(Rule(), some_book, 0, receipts[1:]), [(0, 6), (8, None)])


if __name__ == "__main__":
    unittest.main()
