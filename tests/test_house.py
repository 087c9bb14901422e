"""Houses: what is done, taken back and refused, blocks of deeds, and what a house answers."""

import random
import unittest

from rowsmeet.asking import by_pairs, told
from rowsmeet.books import Book, Row
from rowsmeet.boxes import Box
from rowsmeet.errors import (
    BadDay, BadRow, BadRule, BadSale, BadSales, NoRow, NothingDone, PriceError, Shaky, TooMany,
)
from rowsmeet.firmness import is_firm, shaky
from rowsmeet.house import House
from rowsmeet.logs import Log
from rowsmeet.rules import Rule
from tests.argument_checks import DAY, INDEX, RULE as RULES, SALE as SALES
from tests.plain import WORDS, some_row
from tests.values import BIG, book, nested, other_kinds, plain_kinds, prices, row

SALE, RULE, NEWEST = ("ann", "tea", 35, 2), Rule(["narrowest", "newest"]), Rule(["newest"])
WEEK, ANN, SUMMER = row(7, days=(30, 36)), row(8, who="ann", days=(33, None)), row(10, days=(0, 90))


class Stop(Exception):
    """An error of those that use a house."""


def house_of(*rows, rule=NEWEST, strict=False):
    """A house in which these rows were put."""
    house = House(rule, strict)
    for each in rows:
        house.put(each)
    return house


def state(house):
    """All that can be read of a house."""
    return house.rule, house.strict, house.book, house.deeds, house(SALE), house.row_of(SALE)


class Kept(unittest.TestCase):
    def assert_refused(self, error, house, *called):
        """The call raises this very error, and the house is as before."""
        before = state(house)
        with self.assertRaises(PriceError, msg=called) as caught:
            called[0](*called[1:])
        self.assertEqual(caught.exception.__class__, error, called)
        self.assertEqual(state(house), before)
        return caught.exception


class Made(Kept):
    def test_a_new_house(self):
        for house in [House(NEWEST), House(NEWEST, False), House(rule=NEWEST), House(strict=False, rule=NEWEST)]:
            self.assertEqual(state(house), (NEWEST, False, Book(), [], "none", None))
        for house in [House(NEWEST, True), House(NEWEST, strict=True)]:
            self.assertEqual(state(house), (NEWEST, True, Book(), [], "none", None))
            self.assertIs(house.strict, True)

    def test_values_that_are_no_rule(self):
        for wrong in RULES[2]:
            for strict in [False, True]:
                self.assertRaises(BadRule, House, wrong, strict)

    def test_two_houses_do_not_hang_on_one_another(self):
        one, other = House(NEWEST), House(NEWEST)
        one.put(WEEK)
        self.assertEqual((len(one.book), len(other.book)), (1, 0))

    def test_methods_without_a_stated_result_return_none(self):
        house = House(NEWEST)
        self.assertEqual([house.put(WEEK), house.put(ANN), house.end(1, 40), house.take(0), house.undo()], [None] * 5)


class Deeds(Kept):
    def test_put(self):
        house = House(NEWEST)
        house.put(WEEK)
        house.put(row=ANN)
        self.assertEqual((house.book, house.deeds), (Book([WEEK, ANN]), [("put", WEEK), ("put", ANN)]))

    def test_put_by_its_sign(self):
        house = same = House(NEWEST)
        house += WEEK
        house += ANN
        self.assertIs(house, same)
        self.assertEqual((same.book, same.deeds), (Book([WEEK, ANN]), [("put", WEEK), ("put", ANN)]))
        with self.assertRaises(BadRow) as caught:
            house += 5
        self.assertEqual(caught.exception.part, "row")
        self.assertIs(house, same)
        self.assertEqual(same.book, Book([WEEK, ANN]))

    def test_take_and_end(self):
        house = house_of(WEEK, ANN, SUMMER)
        house.take(1)
        house.end(1, 40)
        house.end(at=1, day=20)
        house.take(at=0)
        self.assertEqual(house.deeds[3:], [("take", 1), ("end", 1, 40), ("end", 1, 20), ("take", 0)])
        self.assertEqual(house.book, Book([row(10, days=(0, 19))]))

    def test_an_end_that_leaves_no_days(self):
        house = house_of(WEEK, ANN)
        house.end(0, 30)
        self.assertEqual((house.book, house.deeds[2:]), (Book([ANN]), [("end", 0, 30)]))
        house.end(0, 0)
        self.assertEqual((house.book, house.deeds[2:]), (Book(), [("end", 0, 30), ("end", 0, 0)]))

    def test_deeds_that_change_nothing_stand(self):
        house = house_of(WEEK)
        for times in range(3):
            house.end(0, 37)
        self.assertEqual((house.book, house.deeds[1:]), (Book([WEEK]), [("end", 0, 37)] * 3))
        house.undo()
        self.assertEqual((house.book, house.deeds[1:]), (Book([WEEK]), [("end", 0, 37)] * 2))

    def test_undo(self):
        house = house_of(WEEK, ANN)
        books = [house.book]
        for deed in [lambda: house.take(0), lambda: house.put(SUMMER), lambda: house.end(0, 50), lambda: house.end(1, 0)]:
            deed()
            books.append(house.book)
        for many in range(4, 0, -1):
            self.assertEqual((house.book, len(house.deeds)), (books[many], many + 2))
            house.undo()
        self.assertEqual((house.book, house.deeds), (Book([WEEK, ANN]), [("put", WEEK), ("put", ANN)]))
        house.undo()
        house.undo()
        self.assertEqual(house, House(NEWEST))
        for times in range(3):
            self.assert_refused(NothingDone, house, house.undo)
        house.put(SUMMER)
        self.assertEqual(house, house_of(SUMMER))

    def test_a_hundred_deeds_taken_back_one_by_one(self):
        for strict in [False, True]:
            chance, house, books = random.Random(81), House(NEWEST, strict), [Book()]
            while len(house.deeds) < 120:
                many = len(house.book)
                if many < 6 and chance.random() < 0.6:
                    house.put(some_row(chance))
                elif many and chance.random() < 0.5:
                    house.take(chance.randrange(many))
                elif many:
                    house.end(chance.randrange(many), chance.choice([0, 2, 3, 9]))
                if len(house.deeds) == len(books):
                    books.append(house.book)
            deeds = house.deeds
            while house.deeds:
                self.assertEqual((house.book, house.deeds), (books[len(house.deeds)], deeds[:len(house.deeds)]))
                house.undo()
            self.assertEqual(house, House(NEWEST, strict))

    def test_at_is_the_index_in_the_book_of_that_time(self):
        house = house_of(WEEK, ANN, SUMMER)
        house.take(0)
        house.take(0)
        house.put(WEEK)
        house.take(1)
        self.assertEqual(house.deeds[3:], [("take", 0), ("take", 0), ("put", WEEK), ("take", 1)])
        self.assertEqual(house.book, Book([SUMMER]))


class Refused(Kept):
    def test_values_that_are_no_row(self):
        for strict in [False, True]:
            house = house_of(WEEK, strict=strict)
            for wrong in other_kinds() + [None, 5, [WEEK], (WEEK,), Box(), book(5), NEWEST, house, nested(20), b"row"]:
                self.assertEqual(self.assert_refused(BadRow, house, house.put, wrong).part, "row")

    def test_a_seventh_row(self):
        for strict in [False, True]:
            house = house_of(*[WEEK] * 6, strict=strict)
            self.assertEqual(self.assert_refused(TooMany, house, house.put, WEEK).most, 6)
            self.assert_refused(BadRow, house, house.put, None)

    def test_values_that_are_no_index(self):
        for strict in [False, True]:
            house = house_of(WEEK, ANN, SUMMER, strict=strict)
            for wrong in INDEX[2]:
                for called in [(house.take, wrong), (house.end, wrong, 5), (house.end, wrong, None)]:
                    found = self.assert_refused(NoRow, house, *called)
                    self.assertEqual((found.at, found.at.__class__), (wrong, wrong.__class__))
            empty = House(NEWEST, strict)
            self.assert_refused(NoRow, empty, empty.take, 0)
            self.assert_refused(NoRow, empty, empty.end, 0, None)

    def test_values_that_are_no_day(self):
        for strict in [False, True]:
            house = house_of(WEEK, ANN, strict=strict)
            for wrong in DAY[2]:
                self.assert_refused(BadDay, house, house.end, 1, wrong)

    def test_sales_that_are_none(self):
        house = house_of(WEEK)
        for wrong in SALES[2]:
            self.assert_refused(BadSale, house, house, wrong)
            self.assert_refused(BadSale, house, house.row_of, wrong)


class Strict(Kept):
    def test_a_ring(self):
        house = house_of(WEEK, ANN, rule=RULE, strict=True)
        self.assertEqual(self.assert_refused(Shaky, house, house.put, SUMMER).lot, (0, 1, 2))
        loose = house_of(WEEK, ANN, SUMMER, rule=RULE)
        self.assertEqual(len(loose.book), 3)
        house.take(1)
        house.put(SUMMER)
        house.put(ANN)
        self.assertEqual(house.book, Book([WEEK, SUMMER, ANN]))

    def test_unparted_rows(self):
        house = house_of(row(5), row(6), rule=Rule(["cheapest"]), strict=True)
        self.assertEqual(self.assert_refused(Shaky, house, house.put, row(5)).lot, (0, 2))
        self.assertEqual(self.assert_refused(Shaky, house, house.put, row(6, who="ann")).lot, (1, 2))
        for wrong in [row(5), row(6)]:
            before = house
            with self.assertRaises(Shaky):
                house += wrong
            self.assertIs(house, before)
        self.assertEqual(house.deeds, [("put", row(5)), ("put", row(6))])

    def test_an_end_behind_which_the_book_would_not_be_firm(self):
        house = house_of(row(5, days=(3, 9)), row(5, days=(3, 30)), rule=Rule(["narrowest"]), strict=True)
        # Ended on this day both rows would have the same box.
        self.assertEqual(self.assert_refused(Shaky, house, house.end, 1, 10).lot, (0, 1))
        for day, days in [(9, (3, 8)), (11, (3, 10))]:
            with house:
                house.end(1, day)
                self.assertEqual(house.book[1].box.days, days)
            house.undo()
        house.end(0, 5)
        house.end(1, 10)
        self.assertEqual([each.box.days for each in house.book], [(3, 4), (3, 9)])
        loose = house_of(row(5, days=(3, 9)), row(5, days=(3, 30)), rule=Rule(["narrowest"]))
        loose.end(1, 10)
        self.assertEqual(len(loose.deeds), 3)

    def test_shaky_comes_behind_all_other_errors(self):
        house = house_of(*[row(price, days=(0, price)) for price in range(6)], rule=Rule(["narrowest"]), strict=True)
        self.assert_refused(TooMany, house, house.put, row(0, days=(0, 0)))
        self.assert_refused(NoRow, house, house.end, 6, 3)
        self.assert_refused(BadDay, house, house.end, 5, None)
        self.assertEqual(self.assert_refused(Shaky, house, house.end, 5, 5).lot, (4, 5))
        self.assertEqual(self.assert_refused(Shaky, house, house.end, 5, 1).lot, (0, 5))

    def test_any_row_may_be_taken(self):
        house = house_of(SUMMER, ANN, WEEK, rule=RULE, strict=True)
        for times in range(3):
            house.take(0)
        self.assertEqual(house.book, Book())

    def test_a_book_that_is_not_firm_is_never_come_to(self):
        chance, refused, not_firm = random.Random(82), 0, 0
        for number in range(60):
            words = chance.sample(WORDS, chance.choice([1, 2, 2, 3]))
            house, loose = House(Rule(words), True), House(Rule(words))
            for times in range(15):
                each, at, day = some_row(chance), chance.randrange(6), chance.choice([0, 1, 2, 3, 5])
                kind = chance.choice(["put", "put", "take", "end", "undo"])
                deeds = {"put": lambda one: one.put(each), "take": lambda one: one.take(at),
                         "end": lambda one: one.end(at, day), "undo": lambda one: one.undo()}
                before = state(house)
                wanted = house.copy()
                free = House(Rule(words))
                for deed in wanted.deeds:
                    {"put": free.put, "take": free.take, "end": free.end}[deed[0]](*deed[1:])
                try:
                    deeds[kind](house)
                except Shaky as error:
                    refused += 1
                    self.assertEqual(state(house), before)
                    deeds[kind](free)
                    self.assertEqual(error.lot, shaky(Rule(words), free.book)[0])
                except PriceError as error:
                    self.assertEqual(state(house), before)
                    self.assertRaises(error.__class__, deeds[kind], free)
                else:
                    deeds[kind](free)
                    self.assertEqual((house.book, house.deeds), (free.book, free.deeds))
                self.assertIs(is_firm(Rule(words), house.book), True)
                try:
                    deeds[kind](loose)
                except PriceError as error:
                    self.assertNotEqual(error.__class__, Shaky)
            not_firm += not is_firm(Rule(words), loose.book)
        self.assertGreater(refused, 40)
        self.assertGreater(not_firm, 10)


class Answers(Kept):
    def test_what_is_told_and_the_row_by_pairs(self):
        house = house_of(WEEK, ANN, rule=RULE)
        for sale in [SALE, ("bob", "tea", 35, 2), ("bob", "tea", 99, 2), ("ann", "tea", 99, 2)]:
            self.assertEqual(house(sale), told(RULE, house.book, sale))
            self.assertEqual(house.row_of(sale), by_pairs(RULE, house.book, sale))
        self.assertEqual((house(SALE), house.row_of(SALE)), (8, 1))
        house.put(SUMMER)
        self.assertEqual((house(sale=SALE), house.row_of(sale=SALE)), (8, None))
        self.assertEqual((house(("bob", "tea", 35, 2)), house.row_of(("bob", "tea", 35, 2))), (7, 0))
        self.assertEqual((house(("bob", "tea", 91, 2)), house.row_of(("bob", "tea", 91, 2))), ("none", None))
        self.assertEqual(house_of(row(5), row(6), rule=Rule())(SALE), "open")

    def test_answers_as_the_book_does_whatever_was_done_and_taken_back(self):
        chance = random.Random(83)
        for number in range(30):
            rule = Rule(chance.sample(WORDS, 2))
            house, rows, past = House(rule), [], []
            for times in range(20):
                kind = chance.choice(["put", "put", "take", "end", "undo"])
                if kind == "put" and len(rows) < 6:
                    past.append(list(rows))
                    rows.append(some_row(chance))
                    house.put(rows[-1])
                elif kind == "take" and rows:
                    past.append(list(rows))
                    at = chance.randrange(len(rows))
                    del rows[at]
                    house.take(at)
                elif kind == "end" and rows:
                    past.append(list(rows))
                    at, day = chance.randrange(len(rows)), chance.randrange(5)
                    left = rows[at].ended(day)
                    rows[at:at + 1] = [] if left is None else [left]
                    house.end(at, day)
                elif kind == "undo" and past:
                    rows = past.pop()
                    house.undo()
                sale = (chance.choice(["a", "ann", "bob"]), chance.choice(["tea", "x"]), chance.randrange(5), chance.randrange(4))
                self.assertEqual((house.book, len(house.deeds)), (Book(rows), len(past)))
                self.assertEqual(house(sale), told(rule, Book(rows), sale))
                self.assertEqual(house.row_of(sale), by_pairs(rule, Book(rows), sale))

    def test_lists_that_are_returned_are_new(self):
        house = house_of(WEEK, ANN)
        deeds = house.deeds
        deeds.pop()
        deeds[0] = 5
        house.deeds.append(7)
        self.assertEqual((house.deeds, house.book), ([("put", WEEK), ("put", ANN)], Book([WEEK, ANN])))
        news = house.news([SALE, SALE])
        news.append(9)
        self.assertEqual(house.news([SALE, SALE]), [0, 1])


class News(Kept):
    def test_the_sales_of_which_the_last_deed_changed_what_is_told(self):
        house = house_of(WEEK)
        sales = [SALE, ("bob", "tea", 35, 2), ("bob", "tea", 99, 0), ("ann", "tea", 99, 0), SALE]
        self.assertEqual(house.news(sales), [0, 1, 4])
        house.put(ANN)
        self.assertEqual(house.news(sales), [0, 3, 4])
        self.assertEqual(house.news(tuple(sales)), [0, 3, 4])
        house.end(1, 99)
        self.assertEqual(house.news(sales=sales), [3])
        house.take(0)
        self.assertEqual(house.news(sales), [1])
        house.undo()
        self.assertEqual(house.news(sales), [3])
        house.undo()
        self.assertEqual(house.news(sales), [0, 3, 4])

    def test_nothing_told_otherwise(self):
        house = house_of(WEEK)
        self.assertEqual(house.news([]), [])
        house.end(0, 50)
        self.assertEqual(house.news([SALE]), [])
        house.put(row(7, 3))
        self.assertEqual(house.news([SALE, ("a", "a", 0, 0)]), [1])

    def test_open_counts_as_told(self):
        house = house_of(row(5), rule=Rule())
        house.put(row(6))
        self.assertEqual(house.news([SALE]), [0])
        house.put(row(7))
        self.assertEqual(house.news([SALE]), [])

    def test_values_that_are_no_list_of_sales(self):
        for house in [house_of(WEEK), House(NEWEST)]:
            for wrong in plain_kinds() + [None, 5, "sales", {0: SALE}, house, book(5), b"ab"]:
                self.assertIsNone(self.assert_refused(BadSales, house, house.news, wrong).at)
            for wrong in SALES[2]:
                for at in range(3):
                    found = self.assert_refused(BadSales, house, house.news, [SALE] * at + [wrong, SALE, None])
                    self.assertEqual((found.at, found.at.__class__), (at, int))
            self.assertEqual(self.assert_refused(BadSales, house, house.news, SALE).at, 0)

    def test_nothing_done_comes_last(self):
        for house in [House(NEWEST), House(NEWEST, True)]:
            self.assert_refused(NothingDone, house, house.news, [])
            self.assert_refused(NothingDone, house, house.news, [SALE])
            self.assert_refused(BadSales, house, house.news, [None])

    def test_many_sales(self):
        house = house_of(WEEK)
        self.assertEqual(house.news([SALE] * 100), list(range(100)))


class Copies(Kept):
    def test_a_copy_is_equal_and_independent(self):
        for strict in [False, True]:
            house = house_of(WEEK, ANN, strict=strict)
            same = house.copy()
            self.assertEqual((same, state(same)), (house, state(house)))
            same.take(0)
            house.undo()
            self.assertEqual((house.book, same.book), (Book([WEEK]), Book([ANN])))
            same.undo()
            same.undo()
            self.assertEqual((house.deeds, same.deeds), ([("put", WEEK)], [("put", WEEK)]))
            self.assertEqual(house, same)

    def test_a_copy_of_a_strict_house_is_strict(self):
        same = house_of(WEEK, ANN, rule=RULE, strict=True).copy()
        self.assertRaises(Shaky, same.put, SUMMER)

    def test_a_copy_made_in_a_block_is_in_no_block(self):
        house = house_of(WEEK)
        with self.assertRaises(Stop):
            with house:
                house.put(ANN)
                same = house.copy()
                house.put(SUMMER)
                raise Stop
        self.assertEqual((house.book, same.book), (Book([WEEK]), Book([WEEK, ANN])))
        with self.assertRaises(Stop):
            with same:
                same.undo()
                raise Stop
        self.assertEqual(same.book, Book([WEEK, ANN]))

    def test_equality(self):
        house = house_of(WEEK, ANN)
        self.assertEqual(house, house_of(WEEK, ANN))
        for other in [House(NEWEST), house_of(WEEK), house_of(ANN, WEEK), house_of(WEEK, ANN, rule=Rule(["oldest"])),
                      house_of(WEEK, ANN, strict=True), house_of(WEEK, ANN, ANN)]:
            self.assertFalse(house == other)
            self.assertTrue(house != other)
        # The books are equal, and the deeds are not.
        more = house_of(WEEK, ANN, SUMMER)
        more.take(2)
        self.assertEqual(more.book, house.book)
        self.assertNotEqual(more, house)
        more.undo()
        more.undo()
        self.assertEqual(more, house)

    def test_equality_with_values_of_another_kind(self):
        house = house_of(WEEK)
        for thing in other_kinds() + [None, book(5), house.book, house.deeds, NEWEST, WEEK, Box(), Log()]:
            self.assertFalse(house == thing)
            self.assertFalse(thing == house)
            self.assertTrue(house != thing)


class Blocks(Kept):
    def test_a_block_without_an_exception(self):
        house = house_of(WEEK)
        with house as same:
            self.assertIs(same, house)
            same.put(ANN)
            house += SUMMER
        self.assertEqual(house, house_of(WEEK, ANN, SUMMER))

    def test_a_block_with_an_exception(self):
        for error in [Stop, NoRow(5), KeyboardInterrupt, ValueError("why"), StopIteration]:
            house = house_of(WEEK)
            try:
                with house:
                    house.put(ANN)
                    house.take(0)
                    raise error
            except BaseException as caught:
                self.assertTrue(caught is error or isinstance(caught, error))
            else:
                self.fail("the exception goes on")
            self.assertEqual(house, house_of(WEEK))

    def test_an_error_of_the_house_itself(self):
        house = house_of(WEEK, ANN, rule=RULE, strict=True)
        with self.assertRaises(Shaky):
            with house:
                house.take(1)
                house.put(row(9, who="bob", days=(50, 51)))
                house.put(ANN)
                house.put(SUMMER)
                house.put(row(4, days=(30, 36)))
                house.put(row(3, who="ann", days=(20, None)))
                house.put(row(3, who="ann", days=(35, None)))
                house.put(row(1))
        self.assertEqual(house, house_of(WEEK, ANN, rule=RULE, strict=True))

    def test_an_error_that_is_caught_within_the_block(self):
        house = house_of(WEEK)
        with house:
            house.put(ANN)
            self.assertRaises(NoRow, house.take, 5)
            house.put(SUMMER)
        self.assertEqual(house, house_of(WEEK, ANN, SUMMER))

    def test_nested_blocks(self):
        house = house_of(WEEK)
        with house:
            house.put(ANN)
            with self.assertRaises(Stop):
                with house:
                    house.put(SUMMER)
                    raise Stop
            self.assertEqual(house, house_of(WEEK, ANN))
            with house:
                house.put(SUMMER)
            self.assertEqual(house, house_of(WEEK, ANN, SUMMER))
        self.assertEqual(house, house_of(WEEK, ANN, SUMMER))

    def test_an_exception_through_nested_blocks(self):
        house = house_of(WEEK)
        with self.assertRaises(Stop):
            with house:
                house.put(ANN)
                with house:
                    house.put(SUMMER)
                house.take(0)
                raise Stop
        self.assertEqual(house, house_of(WEEK))
        with self.assertRaises(Stop):
            with house:
                house.put(ANN)
                with house:
                    house.put(SUMMER)
                    raise Stop
        self.assertEqual(house, house_of(WEEK))

    def test_one_block_behind_another(self):
        house = House(NEWEST)
        with house:
            house.put(WEEK)
        with self.assertRaises(Stop):
            with house:
                house.undo()
                raise Stop
        with self.assertRaises(Stop):
            with house:
                house.put(ANN)
                raise Stop
        self.assertEqual(house, house_of(WEEK))

    def test_undo_of_deeds_done_ahead_of_the_block(self):
        house = house_of(WEEK, ANN)
        with house:
            house.undo()
            house.undo()
            self.assertRaises(NothingDone, house.undo)
            house.put(SUMMER)
        self.assertEqual(house, house_of(SUMMER))
        house = house_of(WEEK, ANN)
        with self.assertRaises(Stop):
            with house:
                house.put(SUMMER)
                for times in range(3):
                    house.undo()
                house.put(SUMMER)
                raise Stop
        self.assertEqual(house, house_of(WEEK, ANN))
        self.assertEqual(house.book, Book([WEEK, ANN]))

    def test_undo_in_a_nested_block(self):
        house = house_of(WEEK)
        with self.assertRaises(Stop):
            with house:
                house.put(ANN)
                with house:
                    house.undo()
                    house.undo()
                self.assertEqual(house, House(NEWEST))
                raise Stop
        self.assertEqual(house, house_of(WEEK))

    def test_deeds_of_a_block_are_taken_back_one_by_one_behind_it(self):
        house = house_of(WEEK)
        with house:
            house.put(ANN)
            house.put(SUMMER)
        house.undo()
        self.assertEqual(house, house_of(WEEK, ANN))

    def test_two_houses_in_blocks_of_each_other(self):
        one, other = house_of(WEEK), house_of(WEEK)
        with one:
            one.put(ANN)
            with self.assertRaises(Stop):
                with other:
                    other.put(SUMMER)
                    one.put(SUMMER)
                    raise Stop
        self.assertEqual((one, other), (house_of(WEEK, ANN, SUMMER), house_of(WEEK)))


class Tried(Kept):
    def test_the_result_of_work(self):
        house = house_of(WEEK)

        def work(same):
            self.assertIs(same, house)
            same.put(ANN)
            return [5]

        self.assertEqual(house.tried(work), [5])
        self.assertEqual(house, house_of(WEEK, ANN))
        self.assertIsNone(house.tried(work=lambda same: same.undo()))
        self.assertEqual(house, house_of(WEEK))
        self.assertIs(house.tried(lambda same: same), house)

    def test_work_that_raises(self):
        house = house_of(WEEK)

        def work(same):
            same.put(ANN)
            same.take(0)
            same.take(7)

        self.assertEqual(self.assert_refused(NoRow, house, house.tried, work).at, 7)
        with self.assertRaises(ZeroDivisionError):
            house.tried(lambda same: same.put(ANN) or 1 // 0)
        self.assertEqual(house, house_of(WEEK))

    def test_work_within_work(self):
        house = house_of(WEEK)

        def inner(same):
            same.put(SUMMER)
            raise Stop

        def outer(same):
            same.put(ANN)
            self.assertRaises(Stop, same.tried, inner)
            return same(SALE)

        self.assertEqual(house.tried(outer), 8)
        self.assertEqual(house, house_of(WEEK, ANN))

    def test_behind_work_the_house_is_in_no_block(self):
        house = house_of(WEEK)
        house.tried(lambda same: same.put(ANN))
        with self.assertRaises(Stop):
            with house:
                house.undo()
                raise Stop
        self.assertEqual(house, house_of(WEEK, ANN))


if __name__ == "__main__":
    unittest.main()
