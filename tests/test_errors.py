"""The errors: their classes, their attributes, and that these are copies."""

import pickle
import unittest

from rowsmeet import errors
from rowsmeet.books import Book
from rowsmeet.boxes import Box
from rowsmeet.errors import (
    BadBook, BadBox, BadDay, BadLog, BadLot, BadReceipts, BadRow, BadRows, BadRule, BadSale, BadSales, BadText,
    NoEntry, NoRow, NotWhole, NothingDone, PriceError, Shaky, TooMany,
)
from tests.values import nested, other_kinds

WITH_ATTRIBUTE = {
    BadBox: "part", BadRow: "part", BadRows: "at", TooMany: "most", NoRow: "at", BadSales: "at", NotWhole: "sale",
    BadLog: "at", BadReceipts: "at", Shaky: "lot", BadText: "line",
}
WITHOUT = [BadRule, BadBook, BadSale, BadLot, NoEntry, BadDay, NothingDone]


class Classes(unittest.TestCase):
    def test_there_are_eighteen_direct_subclasses(self):
        found = {thing for thing in vars(errors).values() if isinstance(thing, type) and thing != PriceError}
        self.assertEqual(found, set(WITH_ATTRIBUTE) | set(WITHOUT))
        self.assertEqual(len(found), 18)
        for kind in found:
            self.assertEqual(kind.__bases__, (PriceError,), kind)
            self.assertEqual(kind.__module__, "rowsmeet.errors")

    def test_the_common_one_is_a_value_error(self):
        self.assertEqual(PriceError.__bases__, (ValueError,))
        with self.assertRaises(ValueError):
            raise PriceError("why")

    def test_each_can_be_raised_and_caught_as_a_price_error(self):
        for kind in WITH_ATTRIBUTE:
            with self.assertRaises(PriceError):
                raise kind(3)
        for kind in WITHOUT:
            with self.assertRaises(PriceError):
                raise kind("why")


class Attributes(unittest.TestCase):
    def test_each_is_made_by_position_and_by_name(self):
        for kind, name in WITH_ATTRIBUTE.items():
            with self.subTest(kind.__name__):
                self.assertEqual(getattr(kind("who"), name), "who")
                self.assertEqual(getattr(kind(**{name: (1, 2)}), name), (1, 2))

    def test_each_needs_just_its_attribute(self):
        for kind, name in WITH_ATTRIBUTE.items():
            with self.subTest(kind.__name__):
                for wrong in [lambda: kind(), lambda: kind(1, 2), lambda: kind(wrong_name=1)]:
                    self.assertRaises(TypeError, wrong)

    def test_any_value_is_kept(self):
        things = other_kinds() + [None, 0, 1, nested(20), (1, [2, {"a": (3, [4])}]), Box("a"), Book()]
        for kind, name in WITH_ATTRIBUTE.items():
            for thing in things:
                kept = getattr(kind(thing), name)
                self.assertEqual(kept, thing)
                self.assertEqual(kept.__class__, thing.__class__)

    def test_true_and_false_stay_what_they_are(self):
        for kind, name in WITH_ATTRIBUTE.items():
            self.assertIs(getattr(kind(True), name), True)
            self.assertIs(getattr(kind([False]), name)[0], False)

    def test_later_changes_to_what_was_passed_change_nothing(self):
        for kind, name in WITH_ATTRIBUTE.items():
            inner, table = [1], {"a": [2]}
            thing = [inner, (inner, table), table]
            error = kind(thing)
            inner.append(5)
            table["b"] = 6
            table["a"].append(7)
            thing.append(8)
            self.assertEqual(getattr(error, name), [[1], ([1], {"a": [2]}), {"a": [2]}])

    def test_what_is_passed_is_not_changed(self):
        for kind, name in WITH_ATTRIBUTE.items():
            thing = [[1], ({"a": [2]},)]
            getattr(kind(thing), name).append(3)
            self.assertEqual(thing, [[1], ({"a": [2]},)])


class Messages(unittest.TestCase):
    def test_a_message_can_be_read_whatever_the_value(self):
        for kind in WITH_ATTRIBUTE:
            for thing in other_kinds() + [None, Box()]:
                self.assertTrue(str(kind(thing)))

    def test_the_others_are_made_from_a_message(self):
        for kind in WITHOUT:
            self.assertEqual(str(kind("why")), "why")

    def test_a_pickled_error_keeps_its_attribute(self):
        for kind, name in WITH_ATTRIBUTE.items():
            again = pickle.loads(pickle.dumps(kind((1, "a"))))
            self.assertEqual(again.__class__, kind)
            self.assertEqual(getattr(again, name), (1, "a"))


if __name__ == "__main__":
    unittest.main()
