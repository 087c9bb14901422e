"""The guarantees of point 2, once more over the whole program, by what its modules say of the same books."""

import itertools
import random
import unittest

from rowsmeet.asking import by_pairs, by_rounds, rows_at, told
from rowsmeet.books import Book, Row
from rowsmeet.desk import Desk
from rowsmeet.entry import count_entries, entries, entry_at, entry_pairs, leaves
from rowsmeet.errors import NotWhole, PriceError, Shaky
from rowsmeet.firmness import all_lots, is_firm, is_whole, least_taken, rings, shaky, unparted, unwhole_sale
from rowsmeet.forms import changes, form_of, parting_sale, tell_alike
from rowsmeet.house import House
from rowsmeet.logs import Log, known, refunds, told_on, turns
from rowsmeet.matter import dead_rows, least_lots, left_at, wins_at
from rowsmeet.orders import are_alike, choose_alike, is_always_firm
from rowsmeet.rules import Rule
from rowsmeet.texts import book_text, log_text, read_book, read_log, read_rule, rule_text, sale_text
from rowsmeet.unknown import prices_back
from tests.plain import WORDS, end_sales, some_cases, some_row
from tests.plain_logs import some_logs


def cases(many, seed):
    """So many triples (rule, book, sales), all sales that need to be looked at."""
    for words, book in some_cases(many, seed):
        boxes = [row.box for row in book]
        yield Rule(words), book, end_sales(boxes)


class Guarantees(unittest.TestCase):
    def test_a_a_row_by_pairs_is_the_only_one_left_by_rounds(self):
        for rule, book, sales in cases(60, 101):
            for sale in sales[::7]:
                best, left = by_pairs(rule, book, sale), by_rounds(rule, book, sale)
                self.assertTrue(best is None or left == (best,))
                self.assertTrue(set(left) <= set(rows_at(book, sale)) and bool(left) == bool(rows_at(book, sale)))

    def test_b_firm_books(self):
        for rule, book, sales in cases(60, 102):
            parts = [book.some(lot) for lot in all_lots(len(book))]
            firm = all(is_whole(rule, part) for part in parts)
            self.assertIs(is_firm(rule, book), firm)
            self.assertIs(not unparted(rule, book) and not rings(rule, book), firm)
            self.assertIs(shaky(rule, book) is None, firm)
            self.assertIs(least_taken(rule, book) == [()], firm)
            for lot in least_taken(rule, book):
                kept = tuple(at for at in range(len(book)) if at not in lot)
                self.assertIs(is_firm(rule, book.some(kept)), True)

    def test_c_all_books(self):
        chance = random.Random(103)
        for rule, book, sales in cases(60, 103):
            other = Rule(chance.sample(WORDS, len(rule.words)))
            if is_always_firm(rule):
                self.assertIs(is_firm(rule, book), True)
            for sale in sales[::11]:
                left = by_rounds(rule, book, sale)
                if choose_alike(rule) and len(left) == 1:
                    self.assertEqual(by_pairs(rule, book, sale), left[0])
                if are_alike(rule, other):
                    self.assertEqual(by_pairs(rule, book, sale), by_pairs(other, book, sale))
                self.assertEqual(by_pairs(Rule(rule.live), book, sale), by_pairs(rule, book, sale))

    def test_d_forms_and_rows_that_matter(self):
        for rule, book, sales in cases(40, 104):
            form, lots = form_of(rule, book), least_lots(rule, book)
            for lot in all_lots(len(book)):
                part = book.some(lot)
                alike = all(told(rule, part, sale) == told(rule, book, sale) for sale in sales[::3])
                same = form_of(rule, part) == form
                self.assertTrue(alike or not same)
                self.assertEqual([tell_alike(rule, part, book), changes(rule, part, book) == {}], [same, same])
                self.assertIs(parting_sale(rule, part, book) is None, same)
                self.assertTrue(not same or any(set(least) <= set(lot) for least in lots))
                self.assertTrue(same or lot not in lots)
            for at in range(len(book)):
                self.assertIs(at in dead_rows(rule, book), left_at(rule, book, at) is None)
                self.assertTrue(wins_at(rule, book, at) is None or at not in dead_rows(rule, book))

    def test_e_orders_of_entry(self):
        for rule, book, sales in cases(60, 105):
            if not is_whole(rule, book):
                with self.assertRaises(NotWhole) as caught:
                    entry_pairs(rule, book)
                self.assertEqual(caught.exception.sale, unwhole_sale(rule, book))
            elif len(book) < 5:
                found = list(entries(rule, book))
                self.assertEqual(count_entries(rule, book), len(found))
                self.assertEqual([entry_at(rule, book, number) for number in range(len(found))], found)
                for order in itertools.permutations(range(len(book))):
                    self.assertIs(leaves(rule, book, order), order in found)
                    if order in found:
                        self.assertIs(tell_alike(rule, book, book.entered(order)), True)

    def test_f_logs_and_receipts(self):
        for number, made in enumerate(some_logs(60, 106)):
            log, rule = Log(made), Rule([["newest"], ["cheapest", "oldest"], []][number % 3])
            sale = ("ann", "tea", number % 4, number % 3)
            said = [told_on(rule, log, sale, day) for day in range(30)]
            self.assertEqual(said, [told(rule, known(log, day)[0], sale) for day in range(30)])
            self.assertEqual([each for day, each in turns(rule, log, sale)],
                             [said[0]] + [other for one, other in zip(said, said[1:]) if one != other])
            due = refunds(rule, log, [(sale, day) for day in range(20)])
            self.assertEqual([None if each is None else each + said[day] for day, each in enumerate(due)],
                             [None if each is None else said[-1] for each in due])
            book = known(log, 29)[0]
            for at in range(len(book)):
                stretches = prices_back(rule, book, at, [(sale, said[-1])])
                self.assertTrue(any(first <= book[at].price and (last is None or book[at].price <= last)
                                    for first, last in stretches))

    def test_g_houses_desks_and_texts(self):
        chance = random.Random(107)
        for rule, book, sales in cases(40, 107):
            house, strict, desk = House(rule), House(rule, True), Desk(rule_text(rule))
            for row in book:
                house += row
                desk.reply("put " + book_text(Book([row]))[:-1])
                try:
                    strict.put(row)
                except Shaky as error:
                    self.assertEqual(error.lot, shaky(rule, strict.book.with_row(row))[0])
                self.assertIs(is_firm(rule, strict.book), True)
            same = house.copy()
            for times in range(4):
                with self.assertRaises(PriceError):
                    house.tried(lambda inner: [inner.put(some_row(chance)), inner.end(0, 2), inner.take(7)])
                self.assertEqual(house, same)
            self.assertEqual(house.book, book)
            self.assertEqual(desk.reply("rows"), book_text(book)[:-1].replace("\n", "; ") or "none")
            for sale in sales[::17]:
                self.assertEqual(house(sale), told(rule, book, sale))
                self.assertEqual(desk.reply("ask " + sale_text(sale)), str(house(sale)))
            self.assertEqual((read_book(book_text(book)), read_rule(rule_text(rule))), (book, rule))
        for made in some_logs(30, 107):
            self.assertEqual(read_log(log_text(Log(made))), Log(made))

    def test_arguments_are_not_changed(self):
        rows = [Row(row.box, row.price, row.rank) for row in some_cases(6, 108)[5][1]]
        kept, book = list(rows), Book(rows)
        rule = Rule(["narrowest", "newest"])
        for function in [form_of, dead_rows, least_lots, is_firm, shaky]:
            function(rule, book)
        self.assertEqual((rows, book), (kept, Book(kept)))


if __name__ == "__main__":
    unittest.main()
