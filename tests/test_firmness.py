"""Whole books and firm books, what shows that they are not, and the least lots without which they are."""

import itertools
import unittest

from rowsmeet.asking import by_pairs, rows_at
from rowsmeet.books import Book, Row
from rowsmeet.boxes import Box, is_sale
from rowsmeet.firmness import is_firm, is_whole, least_taken, rings, shaky, unparted, unwhole_sale
from rowsmeet.rules import Rule, beats, parts
from tests.plain import WORDS, Plain, end_sales, ring_cases, some_cases
from tests.values import BIG, book, row

WEEK, ANN, SUMMER = row(7, days=(30, 36)), row(8, who="ann", days=(33, None)), row(10, days=(0, 90))
RING, RING_RULE = Book([WEEK, ANN, SUMMER]), Rule(["narrowest", "newest"])

# Boxes within and across one another, in the order of whose rows several rings are.
CORNERS = Book([row(days=(0, day), amounts=(0, amount))
                for day, amount in [(2, 0), (0, 2), (1, 3), (3, 3), (3, 2), (2, 1)]])

# Behind the sales of the ring's three rows a row of a higher rank beats them.
COVERED, COVERED_RULE = RING.with_row(row(5, 1, who="ann", days=(33, 36))), Rule(["highest", "narrowest", "newest"])


def all_findings(rule, some_book):
    """What each function says, but for open sales."""
    found = shaky(rule, some_book)
    return (unparted(rule, some_book), rings(rule, some_book), is_firm(rule, some_book), found and found[0],
            is_whole(rule, some_book), least_taken(rule, some_book))


class Unparted(unittest.TestCase):
    def test_ascending_pairs(self):
        self.assertEqual(unparted(Rule(), book(1, 2, 3, 4)), [(0, 1), (0, 2), (0, 3), (1, 2), (1, 3), (2, 3)])
        self.assertEqual(unparted(Rule(["cheapest"]), book(5, 6, 5, 6, 5)), [(0, 2), (0, 4), (1, 3), (2, 4)])

    def test_rows_that_do_not_meet(self):
        for one, other in [({"who": "ann"}, {"who": "bob"}), ({"what": "a"}, {"what": "b"}),
                           ({"days": (0, 4)}, {"days": (5, None)}), ({"amounts": (3, 3)}, {"amounts": (4, 4)})]:
            self.assertEqual(unparted(Rule(), Book([row(**one), row(**other)])), [])
            self.assertEqual(unparted(Rule(), Book([row(**one), row(), row(**other)])), [(0, 1), (1, 2)])

    def test_rows_that_meet_in_one_sale(self):
        some_book = Book([row(who="ann", days=(0, 5), amounts=(3, 3)), row(what="tea", days=(5, None), amounts=(0, 3))])
        self.assertEqual(unparted(Rule(["narrowest"]), some_book), [(0, 1)])

    def test_parted_rows(self):
        self.assertEqual(unparted(Rule(["newest"]), Book([row(1)] * 6)), [])
        self.assertEqual(unparted(Rule(["highest"]), Book([row(1, 2), row(1, 3)])), [])

    def test_books_of_no_row_and_of_one(self):
        for words in [[], WORDS]:
            self.assertEqual(all_findings(Rule(words), Book()), ([], [], True, None, True, [()]))
            self.assertEqual(all_findings(Rule(words), book(1)), ([], [], True, None, True, [()]))


class Rings(unittest.TestCase):
    def test_the_ring_of_the_document(self):
        self.assertEqual(rings(RING_RULE, RING), [(0, 2, 1)])
        self.assertEqual(rings(Rule(["newest"]), RING), [])

    def test_each_order_of_the_three_rows(self):
        expected = {(0, 1, 2): [(0, 2, 1)], (1, 2, 0): [], (2, 0, 1): [], (0, 2, 1): [], (1, 0, 2): [], (2, 1, 0): []}
        for order in itertools.permutations(range(3)):
            self.assertEqual(rings(RING_RULE, RING.entered(order)), expected[order], order)

    def test_the_other_way_round(self):
        some_book = Book([SUMMER, ANN, WEEK])
        self.assertEqual(rings(Rule(["widest", "newest"]), some_book), [(0, 2, 1)])
        self.assertEqual(rings(Rule(["narrowest", "oldest"]), some_book), [(0, 1, 2)])

    def test_several_in_order(self):
        self.assertEqual(rings(RING_RULE, CORNERS), [(0, 4, 2), (0, 5, 1), (0, 5, 2)])

    def test_rows_that_do_not_meet(self):
        far = row(8, who="ann", days=(91, None))
        self.assertEqual(rings(RING_RULE, Book([WEEK, far, SUMMER])), [])
        # This row meets the summer, but not the week.
        late = row(8, who="ann", days=(37, None))
        some_book = Book([WEEK, late, SUMMER])
        self.assertEqual([beats(RING_RULE, some_book, *pair) for pair in [(0, 2), (2, 1), (1, 0)]], [True] * 3)
        self.assertEqual(rings(RING_RULE, some_book), [])
        self.assertIs(is_firm(RING_RULE, some_book), True)

    def test_unparted_rows_are_in_no_ring(self):
        self.assertEqual(rings(Rule(["narrowest"]), RING), [])
        self.assertEqual(rings(Rule(), book(1, 2, 3)), [])


class Firm(unittest.TestCase):
    def test_firm_books(self):
        for rule, some_book in [(Rule(["newest"]), RING), (Rule(["cheapest"]), book(1, 2, 3, 4, 5, 6)),
                                (Rule(["narrowest"]), Book([SUMMER, WEEK])), (RING_RULE, RING.entered((2, 0, 1))),
                                (Rule(), Book([row(who="ann"), row(who="bob")]))]:
            self.assertEqual(all_findings(rule, some_book), ([], [], True, None, True, [()]))

    def test_unparted_rows(self):
        self.assertEqual(all_findings(Rule(["narrowest"]), RING), (
            [(0, 1), (1, 2)], [], False, (0, 1), False, [(1,), (0, 2)]))

    def test_a_ring(self):
        self.assertEqual(all_findings(RING_RULE, RING), ([], [(0, 2, 1)], False, (0, 1, 2), False, [(0,), (1,), (2,)]))

    def test_a_whole_book_that_is_not_firm(self):
        self.assertEqual(all_findings(COVERED_RULE, COVERED), (
            [], [(0, 2, 1)], False, (0, 1, 2), True, [(0,), (1,), (2,)]))
        self.assertIs(is_whole(COVERED_RULE, COVERED.without(3)), False)
        some_book = Book([row(5), row(6), row(4, 1)])
        self.assertEqual(all_findings(Rule(["highest"]), some_book), ([(0, 1)], [], False, (0, 1), True, [(0,), (1,)]))


class Shaky(unittest.TestCase):
    def assert_shaky(self, rule, some_book, lot):
        found = shaky(rule, some_book)
        self.assertEqual((found.__class__, len(found), found[0]), (tuple, 2, lot))
        sale = found[1]
        self.assertIs(is_sale(sale), True)
        self.assertEqual([at for at in lot if at in rows_at(some_book, sale)], list(lot))
        part = some_book.some(lot)
        self.assertEqual(len(rows_at(part, sale)), len(lot))
        self.assertIsNone(by_pairs(rule, part, sale))

    def test_the_first_pair(self):
        self.assert_shaky(Rule(["cheapest"]), book(1, 2, 3, 2, 3), (1, 3))
        self.assert_shaky(Rule(["cheapest"]), book(1, 2, 3, 3, 2), (1, 4))

    def test_a_pair_behind_a_ring(self):
        some_book = RING + Book([row(1, who="bob", days=(99, 99)), row(1, who="bob", days=(99, 99))])
        self.assert_shaky(RING_RULE, some_book, (0, 1, 2))
        self.assert_shaky(Rule(["narrowest", "dearest"]), Book([SUMMER, row(11, who="ann", days=(33, None)), row(12, days=(30, 36))]
                                                               + [row(1, who="bob", days=(99, 99))] * 2), (3, 4))

    def test_the_first_ring_as_a_lot(self):
        self.assert_shaky(RING_RULE, CORNERS, (0, 1, 5))

    def test_a_sale_at_the_end_of_all_boxes(self):
        some_book = Book([row(days=(0, 5)), row(days=(5, BIG)), row(who="ann", amounts=(BIG, BIG)), row(what="tea")])
        self.assert_shaky(Rule(["newest", "oldest", "narrowest"][2:]), some_book, (0, 1))
        self.assertIsNone(shaky(Rule(["newest"]), some_book))

    def test_the_least_lot_of_a_whole_book(self):
        self.assert_shaky(COVERED_RULE, COVERED, (0, 1, 2))


class Whole(unittest.TestCase):
    def assert_unwhole(self, rule, some_book):
        sale = unwhole_sale(rule, some_book)
        self.assertIs(is_sale(sale), True)
        self.assertNotEqual(rows_at(some_book, sale), [])
        self.assertIsNone(by_pairs(rule, some_book, sale))
        self.assertIs(is_whole(rule, some_book), False)
        return sale

    def assert_whole(self, rule, some_book):
        self.assertIs(is_whole(rule, some_book), True)
        self.assertIsNone(unwhole_sale(rule, some_book))

    def test_a_name_that_no_row_has(self):
        named = [row(1, 1, who=name) for name in "abcd"]
        self.assertNotIn(self.assert_unwhole(Rule(["highest"]), Book([row(1), row(1)] + named))[0], "abcd")
        named = [row(1, 1, what=name) for name in "abcd"]
        self.assertNotIn(self.assert_unwhole(Rule(["highest"]), Book([row(1), row(1)] + named))[1], "abcd")

    def test_a_name_that_a_row_has(self):
        some_book = Book([row(1, 0, who="zoe"), row(1, 0), row(1, 1, who="ann")])
        self.assertEqual(self.assert_unwhole(Rule(["highest"]), some_book)[0], "zoe")
        some_book = Book([row(1, 0, what="zoe"), row(1, 0), row(1, 1, what="ann")])
        self.assertEqual(self.assert_unwhole(Rule(["highest"]), some_book)[1], "zoe")

    def test_days_and_amounts_behind_the_last_of_a_row(self):
        for part, at in [("days", 2), ("amounts", 3)]:
            for covers, left in [([(0, 4)], (5, None)), ([(3, None)], (0, 2)), ([(0, 4), (6, None)], (5, 5)),
                                 ([(0, BIG)], (BIG + 1, None)), ([(0, 2), (2, 3), (8, None), (6, 8)], (4, 5))]:
                some_book = Book([row(1), row(1)] + [row(1, 1 + rank, **{part: cover}) for rank, cover in enumerate(covers)])
                number = self.assert_unwhole(Rule(["highest"]), some_book)[at]
                self.assertGreaterEqual(number, left[0])
                self.assertTrue(left[1] is None or number <= left[1])
            some_book = Book([row(1), row(1), row(1, 1, **{part: (0, 4)}), row(1, 2, **{part: (5, None)})])
            self.assert_whole(Rule(["highest"]), some_book)

    def test_one_sale_alone(self):
        boxes = [{"days": (0, 4)}, {"days": (6, None)}, {"amounts": (0, 4)}, {"amounts": (6, None)}]
        covers = [row(1, 1 + rank, **parts_of) for rank, parts_of in enumerate(boxes)]
        some_book = Book([row(1, who="ann"), row(1, what="tea")] + covers)
        self.assertEqual(self.assert_unwhole(Rule(["highest"]), some_book), ("ann", "tea", 5, 5))

    def test_a_ring(self):
        self.assert_unwhole(RING_RULE, RING)
        self.assert_whole(COVERED_RULE, COVERED)

    def test_a_row_by_pairs_among_unparted_rows(self):
        self.assert_whole(Rule(["cheapest"]), book(2, 2, 2, 1, 2, 2))
        self.assert_unwhole(Rule(["cheapest"]), book(2, 2, 2, 1, 2, 1))

    def test_whole_books(self):
        self.assert_whole(Rule(["oldest"]), Book([row(1)] * 6))
        self.assert_whole(Rule(), Book())
        self.assert_whole(Rule(), Book([row(1, days=(at, at)) for at in range(6)]))


class LeastTaken(unittest.TestCase):
    def test_several_lots_in_their_order(self):
        self.assertEqual(least_taken(Rule(), book(1, 2, 3)), [(0, 1), (0, 2), (1, 2)])
        self.assertEqual(least_taken(Rule(["cheapest"]), book(1, 2, 1, 2)), [(0, 1), (0, 3), (1, 2), (2, 3)])

    def test_a_row_that_is_unparted_from_all_others(self):
        some_book = Book([row(1, days=(0, 2)), row(1, days=(3, 5)), row(1), row(1, days=(6, 8))])
        self.assertEqual(least_taken(Rule(), some_book), [(2,), (0, 1, 3)])

    def test_lots_of_several_lengths(self):
        self.assertEqual(least_taken(RING_RULE, CORNERS), [(0,), (1, 2), (2, 5), (4, 5)])

    def test_six_unparted_rows(self):
        expected = [lot for lot in itertools.combinations(range(6), 5)]
        self.assertEqual(least_taken(Rule(), Book([row(1)] * 6)), expected)

    def test_a_firm_book(self):
        self.assertEqual(least_taken(Rule(["newest"]), Book([row(1)] * 6)), [()])


class Against(unittest.TestCase):
    """All parts of a book, and all sales at the ends of its boxes, by what the document says."""

    def test_many_books(self):
        seen = {True: 0, False: 0}
        for words, some_book in some_cases(700, 3):
            self.check(words, some_book)
            seen[is_firm(Rule(words), some_book)] += 1
        self.assertGreater(min(seen.values()), 100)

    def test_rings(self):
        seen = 0
        for words, some_book in ring_cases(300, 4):
            self.check(words, some_book)
            seen += len(rings(Rule(words), some_book)) > 0
        self.assertGreater(seen, 60)

    def check(self, words, some_book):
        plain, rule = Plain(words, some_book), Rule(words)
        firm, lot = plain.is_firm(), plain.shaky_lot()
        self.assertEqual(all_findings(rule, some_book), (
            plain.unparted(), plain.rings(), firm, lot, plain.is_whole(), plain.least_taken()))
        self.assertEqual(firm, lot is None)
        if not firm:
            sale = shaky(rule, some_book)[1]
            self.assertLessEqual(set(lot), set(plain.rows_at(sale)))
            self.assertIsNone(plain.by_pairs_of(lot))
        sale = unwhole_sale(rule, some_book)
        self.assertEqual(sale is None, plain.is_whole())
        if sale is not None:
            self.assertIs(is_sale(sale), True)
            self.assertNotEqual(plain.rows_at(sale), [])
            self.assertIsNone(plain.by_pairs_of(plain.rows_at(sale)))

    def test_each_part_as_a_book_of_its_own(self):
        for words, some_book in some_cases(40, 5) + ring_cases(40, 6):
            some_book, rule, whole = Book(some_book.rows[:4]), Rule(words), []
            for lot in Plain(words, some_book).lots():
                part = some_book.some(lot)
                asked = [(rows_at(part, sale), by_pairs(rule, part, sale)) for sale in end_sales([each.box for each in part])]
                whole.append(all(best is not None for applying, best in asked if applying))
                self.assertIs(is_whole(rule, part), whole[-1])
            self.assertIs(is_firm(rule, some_book), all(whole))


class Results(unittest.TestCase):
    def test_lists_are_new_each_time(self):
        for ask in [lambda: unparted(Rule(), RING), lambda: rings(RING_RULE, RING), lambda: least_taken(RING_RULE, RING)]:
            first = ask()
            kept = list(first)
            first.append(5)
            first[0] = 9
            self.assertEqual(ask(), kept)

    def test_equal_arguments_give_equal_sales(self):
        for words, some_book in some_cases(100, 6):
            again, rule = Book(list(some_book)), Rule(tuple(words))
            self.assertEqual(shaky(Rule(words), some_book), shaky(rule, again))
            self.assertEqual(unwhole_sale(Rule(words), some_book), unwhole_sale(rule, again))

    def test_nothing_is_changed(self):
        copy_of_book, copy_of_rule = Book(RING.rows), Rule(RING_RULE.words)
        all_findings(RING_RULE, RING)
        unwhole_sale(RING_RULE, RING)
        self.assertEqual((RING, RING_RULE), (copy_of_book, copy_of_rule))

    def test_a_part_keeps_what_beats_what(self):
        part = RING.some((1, 2))
        self.assertEqual((parts(RING_RULE, part, 0, 1), beats(RING_RULE, part, 1, 0)), ("newest", True))


if __name__ == "__main__":
    unittest.main()
