"""Rows and books."""

import itertools
import unittest

from rowsmeet.books import Book, Row
from rowsmeet.boxes import Box
from rowsmeet.errors import BadDay, BadLot, BadRow, BadRows, NoRow, PriceError, TooMany
from tests.values import BIG, book, nested, other_kinds, plain_kinds, prices, row, rows

NO_COUNTS = [-1, -BIG, True, False, None, "1", [1], (1,), {}, Box(), Book(), nested(20)]


class Rows(unittest.TestCase):
    def test_a_row_has_its_parts(self):
        box = Box("ann")
        self.assertEqual((Row(box, 7, 9).box, Row(box, 7, 9).price, Row(box, 7, 9).rank), (box, 7, 9))
        self.assertEqual((Row(box, 0).price, Row(box, 0).rank), (0, 0))
        self.assertEqual(Row(rank=3, price=BIG, box=box), Row(box, BIG, 3))

    def test_all_ranks(self):
        self.assertEqual([Row(Box(), 1, rank).rank for rank in range(10)], list(range(10)))

    def test_each_part_wrong_by_itself(self):
        wrong_boxes = other_kinds() + [None, Book(), Row(Box(), 1), ("a", "a", 1, 1)]
        for name, wrongs in [("box", wrong_boxes), ("price", NO_COUNTS), ("rank", NO_COUNTS + [10, BIG])]:
            for wrong in wrongs:
                parts = {"box": Box(), "price": 1, "rank": 0, name: wrong}
                with self.assertRaises(BadRow) as caught:
                    Row(**parts)
                self.assertEqual(caught.exception.part, name)

    def test_of_several_wrong_parts_the_first_one_is_named(self):
        for wrongs, first in [((1, -1, -1), "box"), ((1, -1, 1), "box"), ((1, 1, 10), "box"), ((Box(), -1, 10), "price")]:
            with self.assertRaises(BadRow) as caught:
                Row(*wrongs)
            self.assertEqual(caught.exception.part, first)

    def test_parts_cannot_be_assigned(self):
        one = row(5)
        for name in ["box", "price", "rank"]:
            with self.assertRaises(AttributeError):
                setattr(one, name, 3)
        self.assertEqual(one, row(5))

    def test_equality(self):
        self.assertEqual(row(5, 2, who="a"), row(5, 2, who="a"))
        for other in [row(5, 2, who="b"), row(6, 2, who="a"), row(5, 3, who="a"), row(5, 2)]:
            self.assertIs(row(5, 2, who="a") == other, False)

    def test_no_value_of_another_kind_is_equal(self):
        one = row(5)
        for thing in other_kinds() + [None, 5, (Box(), 5, 0), Box(), Book([one]), [one]]:
            self.assertIs(one == thing, False)
            self.assertIs(thing == one, False)
            self.assertIs(one != thing, True)


class Ended(unittest.TestCase):
    def test_days_ahead_of_at_within_and_behind_the_days(self):
        one = row(5, 3, who="ann", what="tea", days=(3, 6), amounts=(1, 2))
        expected = {0: None, 2: None, 3: None, 4: (3, 3), 5: (3, 4), 6: (3, 5), 7: (3, 6), 8: (3, 6), BIG: (3, 6)}
        for day, days in expected.items():
            left = one.ended(day)
            if days is None:
                self.assertIsNone(left)
            else:
                self.assertEqual(left, row(5, 3, who="ann", what="tea", days=days, amounts=(1, 2)))

    def test_days_without_end(self):
        one = row(5, days=(3, None))
        self.assertIsNone(one.ended(3))
        self.assertEqual(one.ended(4), row(5, days=(3, 3)))
        self.assertEqual(one.ended(day=BIG), row(5, days=(3, BIG - 1)))
        self.assertIsNone(row(5).ended(0))
        self.assertEqual(row(5).ended(1), row(5, days=(0, 0)))

    def test_the_row_is_not_changed(self):
        one = row(5, days=(3, 9))
        one.ended(5)
        self.assertEqual(one, row(5, days=(3, 9)))

    def test_wrong_days(self):
        for day in NO_COUNTS:
            with self.assertRaises(BadDay):
                row(5, days=(3, 9)).ended(day)


class NewBooks(unittest.TestCase):
    def test_books_of_no_row_and_of_six_rows(self):
        self.assertEqual(Book().rows, ())
        self.assertEqual(Book([]).rows, ())
        six = rows(1, 2, 3, 4, 5, 6)
        self.assertEqual(Book(six).rows, tuple(six))
        self.assertEqual(Book(rows=tuple(six)).rows, tuple(six))

    def test_equal_rows_stand_beside_each_other(self):
        self.assertEqual(len(Book([row(1)] * 6)), 6)

    def test_no_list(self):
        for thing in plain_kinds() + [None, "rows", row(1), Box(), Book(), book(1, 2), {row: 1}]:
            with self.assertRaises(BadRows) as caught:
                Book(thing)
            self.assertIsNone(caught.exception.at)

    def test_a_value_that_is_no_row(self):
        for thing in other_kinds() + [None, Box(), Book(), [row(1)]]:
            for at in range(4):
                items = rows(1, 2, 3)
                items.insert(at, thing)
                for given in [items, tuple(items), items + [None]]:
                    with self.assertRaises(BadRows) as caught:
                        Book(given)
                    self.assertEqual(caught.exception.at, at)

    def test_seven_rows(self):
        for many in [7, 8, 300]:
            for given in [[row(1)] * many, (row(1),) * many]:
                with self.assertRaises(TooMany) as caught:
                    Book(given)
                self.assertEqual(caught.exception.most, 6)

    def test_a_value_that_is_no_row_among_seven(self):
        for at in [0, 5, 6]:
            items = rows(1, 2, 3, 4, 5, 6)
            items.insert(at, "row")
            with self.assertRaises(BadRows) as caught:
                Book(items)
            self.assertEqual(caught.exception.at, at)
        with self.assertRaises(BadRows) as caught:
            Book([row(1)] * 9 + [None])
        self.assertEqual(caught.exception.at, 9)

    def test_later_changes_to_the_list_change_nothing(self):
        given = rows(1, 2)
        one = Book(given)
        given.append(row(3))
        given[0] = row(4)
        self.assertEqual(prices(one.rows), [1, 2])

    def test_the_list_is_not_changed(self):
        given = rows(1, 2)
        one = Book(given)
        one.with_row(row(3)).without(0)
        self.assertEqual(given, rows(1, 2))

    def test_later_changes_to_a_list_of_its_rows_change_nothing(self):
        one = book(1, 2)
        listed = list(one)
        listed.clear()
        self.assertEqual(prices(one), [1, 2])

    def test_rows_cannot_be_assigned(self):
        one = book(1)
        with self.assertRaises(AttributeError):
            one.rows = ()
        self.assertEqual(prices(one), [1])


class Asking(unittest.TestCase):
    def test_len(self):
        self.assertEqual([len(Book([row(1)] * many)) for many in range(7)], list(range(7)))

    def test_rows_are_a_tuple(self):
        self.assertEqual(book(3, 1, 2).rows.__class__, tuple)
        self.assertEqual(prices(book(3, 1, 2).rows), [3, 1, 2])

    def test_items(self):
        one = book(3, 1, 2)
        self.assertEqual([one[0].price, one[1].price, one[2].price], [3, 1, 2])

    def test_items_that_are_not_there(self):
        wrongs = NO_COUNTS + [3, 4, BIG, 10 ** 5000, -3, row(3), slice(0, 2), "", {"a": [1]}]
        for at in wrongs:
            with self.assertRaises(NoRow) as caught:
                book(3, 1, 2)[at]
            self.assertEqual(caught.exception.at, at)
            self.assertEqual(caught.exception.at.__class__, at.__class__)
        for at in [0, -1, True, None]:
            self.assertRaises(NoRow, lambda: Book()[at])

    def test_rows_in_it(self):
        one = Book([row(1, who="a"), row(2)])
        self.assertIs(row(2) in one, True)
        self.assertIs(row(1, who="a") in one, True)
        self.assertIs(row(1) in one, False)
        self.assertIs(row(2) in Book(), False)

    def test_other_values_are_not_in_it(self):
        one = book(1, 2)
        for thing in other_kinds() + [None, 0, 1, Box(), Book(), one, rows(1), (Box(), 1, 0), nested(20)]:
            self.assertIs(thing in one, False)

    def test_iteration(self):
        one = book(3, 1, 2)
        self.assertEqual(list(one), rows(3, 1, 2))
        self.assertEqual([(a.price, b.price) for a in one for b in one], list(itertools.product([3, 1, 2], repeat=2)))
        self.assertEqual(list(Book()), [])

    def test_equality(self):
        self.assertEqual(Book(), Book([]))
        self.assertEqual(book(1, 2), book(1, 2))
        self.assertFalse(book(1) != book(1))
        for other in [book(2, 1), book(1), book(1, 2, 2), Book(), book(1, 3)]:
            self.assertIs(book(1, 2) == other, False)

    def test_no_value_of_another_kind_is_equal(self):
        for one in [Book(), book(1, 2)]:
            for thing in other_kinds() + [None, rows(1, 2), tuple(rows(1, 2)), Box(), row(1)]:
                self.assertIs(one == thing, False)
                self.assertIs(thing == one, False)
                self.assertIs(one != thing, True)


class Making(unittest.TestCase):
    """Other books that are made of one; the book itself stays as it is."""

    def setUp(self):
        self.book = book(3, 1, 2)

    def tearDown(self):
        self.assertEqual(prices(self.book), [3, 1, 2])

    def test_both_books(self):
        both = self.book + book(5, 3)
        self.assertEqual(both.__class__, Book)
        self.assertEqual(prices(both), [3, 1, 2, 5, 3])
        self.assertEqual(prices(book(5) + self.book), [5, 3, 1, 2])
        self.assertEqual(self.book + Book(), self.book)
        self.assertEqual(Book() + Book(), Book())
        self.assertEqual(prices(self.book + self.book), [3, 1, 2, 3, 1, 2])

    def test_both_books_have_too_many_rows(self):
        for other in [book(1, 2, 3, 4), book(1, 2, 3, 4, 5, 6)]:
            with self.assertRaises(TooMany) as caught:
                self.book + other
            self.assertEqual(caught.exception.most, 6)

    def test_only_books_are_added(self):
        for thing in other_kinds() + [None, rows(1), tuple(rows(1)), row(1), Box()]:
            with self.assertRaises(TypeError):
                self.book + thing
            with self.assertRaises(TypeError):
                thing + self.book

    def test_with_row(self):
        self.assertEqual(prices(self.book.with_row(row(7))), [3, 1, 2, 7])
        self.assertEqual(prices(self.book.with_row(row=row(3))), [3, 1, 2, 3])
        self.assertEqual(Book().with_row(row(1)), book(1))

    def test_with_a_row_that_is_none(self):
        for full in [self.book, Book([row(1)] * 6)]:
            for thing in other_kinds() + [None, Box(), Book(), [row(1)]]:
                with self.assertRaises(BadRow) as caught:
                    full.with_row(thing)
                self.assertEqual(caught.exception.part, "row")

    def test_with_a_seventh_row(self):
        with self.assertRaises(TooMany) as caught:
            Book([row(1)] * 6).with_row(row(1))
        self.assertEqual(caught.exception.most, 6)

    def test_without(self):
        self.assertEqual([prices(self.book.without(at)) for at in range(3)], [[1, 2], [3, 2], [3, 1]])
        self.assertEqual(book(1).without(at=0), Book())

    def test_without_a_row_that_is_not_there(self):
        for at in NO_COUNTS + [3, BIG]:
            with self.assertRaises(NoRow) as caught:
                self.book.without(at)
            self.assertEqual(caught.exception.at, at)
            self.assertEqual(caught.exception.at.__class__, at.__class__)

    def test_some(self):
        self.assertEqual(self.book.some(()), Book())
        self.assertEqual(self.book.some(lot=(0, 1, 2)), self.book)
        self.assertEqual(prices(self.book.some((1, 2))), [1, 2])
        self.assertEqual(prices(self.book.some((0, 2))), [3, 2])
        self.assertEqual(Book().some(()), Book())

    def test_some_that_are_no_lot(self):
        wrongs = [(2, 1), (0, 0), (0, 1, 1), (0, 3), (3,), (-1,), (-1, 0), (True,), (0, True), (False, 1), (None,),
                  ("0",), ([0],), ((0,),), ({},), (0, 1, 2, 3), [], [0, 1], None, 0, True, "", "01", {}, {0: 1},
                  Box(), Book(), self.book, nested(20)]
        for lot in wrongs:
            with self.assertRaises(BadLot):
                self.book.some(lot)
        for lot in [(0,), [], None]:
            with self.assertRaises(BadLot):
                Book().some(lot)

    def test_entered(self):
        for order in itertools.permutations(range(3)):
            self.assertEqual(prices(self.book.entered(order)), [[3, 1, 2][at] for at in order])
        self.assertEqual(self.book.entered(order=(0, 1, 2)), self.book)
        self.assertEqual(Book().entered(()), Book())

    def test_entered_in_no_order(self):
        wrongs = [(), (0, 1), (0, 1, 1), (0, 1, 2, 2), (0, 1, 3), (1, 2, 3), (-1, 0, 1), (0, True, 2), (False, 1, 2),
                  (0, 1, None), (0, 1, "2"), (0, 1, [2]), (0, 1, {}), [0, 1, 2], [], None, 3, True, "012", {},
                  {0: 0, 1: 1, 2: 2}, Box(), Book(), self.book]
        for order in wrongs:
            with self.assertRaises(BadLot):
                self.book.entered(order)
        for order in [(0,), [], None]:
            with self.assertRaises(BadLot):
                Book().entered(order)


class WithEnded(unittest.TestCase):
    def setUp(self):
        self.book = Book([row(1, days=(0, 9)), row(2, 4, who="a", days=(3, 6)), row(3, days=(5, None))])

    def test_a_row_loses_its_days(self):
        for day, days in [(4, (3, 3)), (6, (3, 5)), (7, (3, 6)), (BIG, (3, 6))]:
            ended = self.book.with_ended(1, day)
            self.assertEqual(ended, Book([self.book[0], row(2, 4, who="a", days=days), self.book[2]]))
        self.assertEqual(self.book.with_ended(day=8, at=2)[2], row(3, days=(5, 7)))

    def test_a_row_without_days_goes(self):
        for day in [0, 2, 3]:
            self.assertEqual(self.book.with_ended(1, day), Book([self.book[0], self.book[2]]))
        self.assertEqual(book(1).with_ended(0, 0), Book())

    def test_the_book_is_not_changed(self):
        ahead = list(self.book)
        self.book.with_ended(0, 5)
        self.book.with_ended(0, 0)
        self.assertEqual(list(self.book), ahead)

    def test_a_row_that_is_not_there(self):
        for at in NO_COUNTS + [3, BIG]:
            for day in [5, -1, None]:
                with self.assertRaises(NoRow) as caught:
                    self.book.with_ended(at, day)
                self.assertEqual(caught.exception.at, at)

    def test_wrong_days(self):
        for day in NO_COUNTS:
            with self.assertRaises(BadDay):
                self.book.with_ended(1, day)


class Errors(unittest.TestCase):
    def test_later_changes_to_a_wrong_value_do_not_reach_the_error(self):
        at = [1, [2]]
        with self.assertRaises(NoRow) as caught:
            book(1)[at]
        at.append(3)
        at[1].append(4)
        self.assertEqual(caught.exception.at, [1, [2]])

    def test_all_are_price_errors(self):
        for wrong in [lambda: Row(1, 1), lambda: Book(1), lambda: book(1).without(7), lambda: book(1).some(7),
                      lambda: book(1).entered(7), lambda: row(1).ended(-1), lambda: Book([row(1)] * 7)]:
            self.assertRaises(PriceError, wrong)


if __name__ == "__main__":
    unittest.main()
