"""What hangs on the order of entry: entry pairs, and the orders that leave each sale its row."""

import inspect
import itertools
import unittest

from rowsmeet.asking import by_pairs
from rowsmeet.books import Book
from rowsmeet.boxes import Box
from rowsmeet.entry import count_entries, entries, entry_at, entry_pairs, leaves
from rowsmeet.errors import BadBook, BadRule, NoEntry, NotWhole, PriceError
from rowsmeet.firmness import unwhole_sale
from rowsmeet.rules import Rule
from tests.plain import Plain, end_sales, entry_pairs_of, leaving_orders, some_cases, whole_cases
from tests.values import BIG, book, nested, other_kinds, row

WEEK, ANN, SUMMER = row(7, days=(30, 36)), row(8, who="ann", days=(33, None)), row(10, days=(0, 90))
RING, RING_RULE, NEWEST = Book([WEEK, ANN, SUMMER]), Rule(["narrowest", "newest"]), Rule(["newest"])


def list_of_entries(rule, some_book):
    """All orders that the generator gives."""
    return list(entries(rule, some_book))


def first_entry(rule, some_book):
    """The first order that the generator gives."""
    return next(entries(rule, some_book))


def any_leaves(rule, some_book):
    """Whether one order leaves each sale its row."""
    return leaves(rule, some_book, (0,))


def first_number(rule, some_book):
    """The order with the number 0."""
    return entry_at(rule, some_book, 0)


ALL = [entry_pairs, any_leaves, list_of_entries, first_entry, count_entries, first_number]


class Orders(unittest.TestCase):
    def check(self, rule, some_book, pairs, orders):
        """All functions, with each order and each number."""
        self.assertEqual(entry_pairs(rule, some_book), pairs)
        self.assertEqual(list(entries(rule, some_book)), orders)
        self.assertEqual(count_entries(rule, some_book), len(orders))
        for order in itertools.permutations(range(len(some_book))):
            self.assertIs(leaves(rule, some_book, order), order in orders)
        for number, order in enumerate(orders):
            self.assertEqual(entry_at(rule, some_book, number), order)
        for number in [-1, len(orders), len(orders) + 1]:
            self.assertRaises(NoEntry, entry_at, rule, some_book, number)

    def test_no_row_and_one(self):
        for words in [[], ["newest"], ["cheapest", "oldest"]]:
            self.check(Rule(words), Book(), [], [()])
            self.check(Rule(words), book(5), [], [(0,)])

    def test_the_example_of_the_document(self):
        self.check(NEWEST, RING, [(0, 2), (1, 2)], [(0, 1, 2), (1, 0, 2)])

    def test_all_rows_meet(self):
        self.check(NEWEST, book(5, 5, 5), [(0, 2), (1, 2)], [(0, 1, 2), (1, 0, 2)])
        self.check(Rule(["oldest"]), book(5, 5, 5), [(0, 1), (0, 2)], [(0, 1, 2), (0, 2, 1)])

    def test_no_two_rows_meet(self):
        apart = Book([row(5, who="ann"), row(5, who="bob"), row(5, who="cid")])
        for words in [[], ["newest"], ["oldest"]]:
            self.check(Rule(words), apart, [], list(itertools.permutations(range(3))))

    def test_words_ahead_part_the_rows(self):
        self.check(Rule(["cheapest", "newest"]), book(5, 6), [], [(0, 1), (1, 0)])
        self.check(Rule(["cheapest"]), book(5, 6, 7), [], list(itertools.permutations(range(3))))
        self.check(Rule(["cheapest", "newest"]), book(5, 6, 5), [(0, 2)], [(0, 1, 2), (0, 2, 1), (1, 0, 2)])
        self.check(Rule(["dearest", "oldest"]), book(5, 6, 5, 6), [(1, 3)], [
            order for order in itertools.permutations(range(4)) if order.index(1) < order.index(3)])

    def test_words_behind_part_no_rows(self):
        self.check(Rule(["newest", "cheapest"]), book(5, 6), [(0, 1)], [(0, 1)])
        self.check(Rule(["oldest", "newest"]), book(6, 5), [(0, 1)], [(0, 1)])
        self.check(Rule(["newest", "oldest"]), book(6, 5), [(0, 1)], [(0, 1)])

    def test_equal_rows_are_told_apart(self):
        # Both orders give the same book, and yet another row counts in it.
        some_book = book(5, 5)
        self.assertEqual(some_book.entered((1, 0)), some_book)
        self.check(NEWEST, some_book, [(0, 1)], [(0, 1)])
        self.check(Rule(["cheapest", "oldest"]), some_book, [(0, 1)], [(0, 1)])

    def test_rows_that_count_nowhere_may_be_anywhere_ahead(self):
        some_book = Book([row(5), row(6, days=(0, 9)), row(7)])
        self.check(NEWEST, some_book, [(0, 2), (1, 2)], [(0, 1, 2), (1, 0, 2)])
        self.check(Rule(["narrowest", "newest"]), some_book, [(0, 2)], [(0, 1, 2), (0, 2, 1), (1, 0, 2)])

    def test_a_chain_of_rows_that_meet_two_by_two(self):
        chain = Book([row(5, days=(0, 2)), row(5, days=(2, 4)), row(5, days=(4, 6)), row(5, days=(6, 8))])
        expected = [order for order in itertools.permutations(range(4))
                    if order.index(0) < order.index(1) < order.index(2) < order.index(3)]
        self.check(NEWEST, chain, [(0, 1), (1, 2), (2, 3)], expected)
        ends = Book([chain[0], chain[2], chain[1]])
        self.check(NEWEST, ends, [(0, 2), (1, 2)], [(0, 1, 2), (1, 0, 2)])

    def test_a_whole_book_that_is_not_firm(self):
        covered, rule = RING.with_row(row(5, 1, who="ann", days=(33, 36))), Rule(["highest", "narrowest", "newest"])
        plain = Plain(rule.words, covered)
        self.check(rule, covered, [(1, 2)], leaving_orders(plain))

    def test_six_rows(self):
        orders = list(itertools.permutations(range(6)))
        six = Book([row(at, who=name) for at, name in enumerate("abcdef")])
        self.assertEqual(list(entries(NEWEST, six)), orders)
        self.assertEqual((count_entries(NEWEST, six), entry_at(NEWEST, six, 719)), (720, (5, 4, 3, 2, 1, 0)))
        self.assertEqual(entry_at(NEWEST, six, 0), (0, 1, 2, 3, 4, 5))
        self.assertRaises(NoEntry, entry_at, NEWEST, six, 720)
        self.assertEqual(count_entries(NEWEST, book(1, 1, 1, 1, 1, 1)), 120)
        self.assertEqual(entry_at(NEWEST, book(1, 1, 1, 1, 1, 1), 119), (4, 3, 2, 1, 0, 5))

    def test_books_of_none_to_five_rows_against_all_orders(self):
        some_but_not_all = 0
        for words, some_book in whole_cases(150, 41):
            plain = Plain(words, some_book)
            orders = leaving_orders(plain)
            some_but_not_all += 1 < len(orders) < [1, 1, 2, 6, 24, 120][len(some_book)]
            self.check(Rule(words), some_book, entry_pairs_of(plain), orders)
        self.assertGreater(some_but_not_all, 30)

    def test_each_sale_keeps_its_row_in_the_books_themselves(self):
        for words, some_book in whole_cases(40, 42, 3):
            rule, sales = Rule(words), end_sales([each.box for each in some_book])[::3]
            for order in itertools.permutations(range(len(some_book))):
                entered = some_book.entered(order)
                places = [by_pairs(rule, entered, sale) for sale in sales]
                same = [None if at is None else order[at] for at in places] == [
                    by_pairs(rule, some_book, sale) for sale in sales]
                if leaves(rule, some_book, order):
                    self.assertIs(same, True)
                if not same:
                    self.assertIs(leaves(rule, some_book, order), False)


class NoOrders(unittest.TestCase):
    def test_values_that_are_no_order(self):
        some_book = Book([row(5, who="ann"), row(6, who="bob"), row(7, who="cid")])
        wrongs = other_kinds() + [
            None, 0, [0, 1, 2], (0, 1), (), (0, 1, 2, 3), (0, 0, 1), (0, 1, 1), (1, 2, 3), (0, True, 2), (False, 1, 2),
            (0, 1, -1), (0, 1, "2"), (0, 1, None), (0, 1, [2]), (0, 1, (2,)), ((0, 1, 2),), {0: 0, 1: 1, 2: 2}, "012",
            b"\x00\x01\x02", some_book, Box(), NEWEST, nested(20), (nested(18), 1, 2)]
        for wrong in wrongs:
            self.assertIs(leaves(NEWEST, some_book, wrong), False)
        self.assertIs(leaves(NEWEST, some_book, (2, 1, 0)), True)
        for wrong in [None, [], [()], (0,), "", {}]:
            self.assertIs(leaves(NEWEST, Book(), wrong), False)
        self.assertIs(leaves(NEWEST, Book(), ()), True)

    def test_numbers_that_are_none(self):
        wrongs = other_kinds() + [None, -1, 2, 3, BIG, "0", [0], (0,), Box(), RING, NEWEST, nested(20), b""]
        for wrong in wrongs:
            self.assertRaises(NoEntry, entry_at, NEWEST, RING, wrong)
        for wrong in [False, True, 1, None, "0"]:
            self.assertRaises(NoEntry, entry_at, NEWEST, Book(), wrong)
        self.assertEqual(entry_at(NEWEST, Book(), 0), ())


class NotWholeBooks(unittest.TestCase):
    def check(self, rule, some_book):
        sale = unwhole_sale(rule, some_book)
        self.assertIsNotNone(sale)
        for function in ALL:
            with self.assertRaises(NotWhole) as caught:
                function(rule, some_book)
            self.assertEqual(caught.exception.sale, sale)
        # It comes ahead of what is wrong of an order or a number.
        for wrong in [None, -1, (), True]:
            self.assertRaises(NotWhole, leaves, rule, some_book, wrong)
            self.assertRaises(NotWhole, entry_at, rule, some_book, wrong)

    def test_books_that_are_not_whole(self):
        for rule, some_book in [(RING_RULE, RING), (Rule(), book(5, 6)), (Rule(["cheapest"]), book(5, 6, 5)),
                                (Rule(["narrowest"]), Book([row(5, days=(0, 3)), row(5, amounts=(0, 3))]))]:
            self.check(rule, some_book)

    def test_many_books(self):
        found = 0
        for words, some_book in some_cases(120, 43):
            if not Plain(words, some_book).is_whole():
                found += 1
                self.check(Rule(words), some_book)
            else:
                self.assertEqual([function(Rule(words), some_book) is None for function in ALL], [False] * 6)
        self.assertGreater(found, 15)

    def test_it_comes_behind_wrong_rules_and_books(self):
        for function in ALL:
            for wrong in [None, ["newest"], RING]:
                self.assertRaises(BadRule, function, wrong, RING)
                self.assertRaises(BadRule, function, wrong, wrong)
        for function in [entry_pairs, list_of_entries, count_entries]:
            for wrong in [None, [WEEK], NEWEST]:
                self.assertRaises(BadBook, function, RING_RULE, wrong)
        for wrong in [None, [WEEK], NEWEST]:
            self.assertRaises(BadBook, leaves, RING_RULE, wrong, None)
            self.assertRaises(BadBook, entry_at, RING_RULE, wrong, None)


class Generator(unittest.TestCase):
    def test_it_is_a_generator(self):
        found = entries(NEWEST, RING)
        self.assertTrue(inspect.isgenerator(found))
        self.assertEqual([next(found), next(found)], [(0, 1, 2), (1, 0, 2)])
        self.assertIsNone(next(found, None))
        self.assertEqual([list(entries(rule=NEWEST, book=RING)), list(entries(book=RING, rule=NEWEST))],
                         [[(0, 1, 2), (1, 0, 2)]] * 2)

    def test_two_of_them_do_not_hang_on_one_another(self):
        one, other = entries(NEWEST, RING), entries(NEWEST, RING)
        self.assertEqual([next(one), next(other), next(one), next(other)], [(0, 1, 2), (0, 1, 2), (1, 0, 2), (1, 0, 2)])

    def test_errors_come_with_the_call_or_with_the_first_one(self):
        for rule, some_book in [(None, RING), (NEWEST, None), (RING_RULE, RING)]:
            with self.assertRaises(PriceError):
                next(entries(rule, some_book))

    def test_lists_are_new_each_time(self):
        found = entry_pairs(NEWEST, RING)
        found.append(1)
        found[0] = 2
        self.assertEqual(entry_pairs(NEWEST, RING), [(0, 2), (1, 2)])


if __name__ == "__main__":
    unittest.main()
