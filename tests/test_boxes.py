"""Names, sales, stretches, boxes, and boxes that meet."""

import itertools
import unittest

from rowsmeet.books import Book, Row
from rowsmeet.boxes import Box, is_name, is_sale, is_stretch, meeting
from rowsmeet.errors import BadBox
from tests.values import BIG, nested, other_kinds, plain_kinds


class Names(unittest.TestCase):
    def test_one_to_eight_letters(self):
        for thing in ["a", "z", "ann", "abcdefgh", "zzzzzzzz"]:
            self.assertIs(is_name(thing), True, thing)

    def test_no_letter_and_nine_letters(self):
        for thing in ["", "abcdefghi", "a" * 3000]:
            self.assertIs(is_name(thing), False, thing)

    def test_other_signs(self):
        for sign in "AZ0 9_-*.\n`{@[~":
            for thing in [sign, "a" + sign, sign + "a", "a" + sign + "b"]:
                self.assertIs(is_name(thing), False, thing)

    def test_letters_from_elsewhere(self):
        for thing in ["\u00e4", "a\u00df", "\u0430", "\uff41"]:
            self.assertIs(is_name(thing), False, thing)

    def test_other_kinds(self):
        for thing in other_kinds() + [None, 1, ["a"], ("a",), {"a": 1}, b"a", Box("a"), nested(20)]:
            self.assertIs(is_name(thing), False)

    def test_by_name(self):
        self.assertIs(is_name(thing="tea"), True)


class Sales(unittest.TestCase):
    def test_sales(self):
        for thing in [("a", "b", 0, 0), ("ann", "tea", 35, 2), ("abcdefgh", "z", BIG, BIG)]:
            self.assertIs(is_sale(thing), True, thing)
        self.assertIs(is_sale(thing=("a", "a", 1, 1)), True)

    def test_each_part_wrong(self):
        good = ["ann", "tea", 3, 4]
        wrong_names = ["", "Ann", "abcdefghi", None, 1, True, ["a"], ("a",)]
        wrong_numbers = [-1, -BIG, True, False, None, "1", [1], (1,), (1, 2), {}]
        for at, wrongs in enumerate([wrong_names, wrong_names, wrong_numbers, wrong_numbers]):
            for wrong in wrongs:
                thing = tuple(good[:at] + [wrong] + good[at + 1:])
                self.assertIs(is_sale(thing), False, thing)

    def test_a_list_and_one_part_more_or_less(self):
        for thing in [["ann", "tea", 3, 4], ("ann", "tea", 3), ("ann", "tea", 3, 4, 5), (), "anna"]:
            self.assertIs(is_sale(thing), False, thing)

    def test_other_kinds(self):
        for thing in other_kinds() + [None, Box("a"), Book(), {"a": 1, "b": 2, "c": 3, "d": 4}]:
            self.assertIs(is_sale(thing), False)


class Stretches(unittest.TestCase):
    def test_stretches(self):
        for thing in [(0, 0), (0, None), (5, 5), (5, 6), (0, BIG), (BIG, None), (BIG, BIG)]:
            self.assertIs(is_stretch(thing), True, thing)
        self.assertIs(is_stretch(thing=(1, 2)), True)

    def test_a_last_number_less_than_the_first_one(self):
        for thing in [(1, 0), (6, 5), (BIG, 0), (0, -1)]:
            self.assertIs(is_stretch(thing), False, thing)

    def test_parts_that_are_no_numbers_from_0_on(self):
        for thing in [(-1, 5), (-1, None), (-2, -1), (True, 5), (False, None), (0, True), (0, False), (1, True),
                      (None, 5), (None, None), ("0", 5), (0, "5"), ([0], 5), (0, [5]), (0, ())]:
            self.assertIs(is_stretch(thing), False, thing)

    def test_a_list_and_one_part_more_or_less(self):
        for thing in [[0, 5], [0, None], (0,), (0, 5, 6), (0, 5, None), ()]:
            self.assertIs(is_stretch(thing), False, thing)

    def test_other_kinds(self):
        for thing in other_kinds() + [None, 5, "05", Box(), Book()]:
            self.assertIs(is_stretch(thing), False)


class Parts(unittest.TestCase):
    def test_a_box_has_its_parts(self):
        box = Box("ann", "tea", (1, 2), (3, None))
        self.assertEqual((box.who, box.what, box.days, box.amounts), ("ann", "tea", (1, 2), (3, None)))

    def test_a_box_without_arguments_has_all(self):
        box = Box()
        self.assertEqual((box.who, box.what, box.days, box.amounts), (None, None, (0, None), (0, None)))

    def test_parts_by_name(self):
        box = Box(amounts=(5, 5), days=(0, 9), what="tea", who="ann")
        self.assertEqual(box, Box("ann", "tea", (0, 9), (5, 5)))

    def test_parts_cannot_be_assigned(self):
        box = Box("ann")
        for name in ["who", "what", "days", "amounts"]:
            with self.assertRaises(AttributeError):
                setattr(box, name, None)
        self.assertEqual(box, Box("ann"))

    def test_numbers_somewhat_beyond_the_limit(self):
        box = Box(days=(10 ** 13, 10 ** 5000))
        self.assertEqual(box.days, (10 ** 13, 10 ** 5000))
        self.assertIn(("a", "a", 10 ** 14, 0), box)


class WrongParts(unittest.TestCase):
    WRONG_NAMES = ["", "Ann", "abcdefghi", "a b", "*", 1, True, False, ["a"], ("a",), {}, b"a"]
    WRONG_STRETCHES = [None, [0, 5], [0, None], (0,), (0, 1, 2), (), (5, 4), (-1, 4), (True, 4), (0, True), (None, 4),
                       (0, "4"), "04", 5, True, {}, {0: 1, 1: 2}]

    def test_each_part_wrong_by_itself(self):
        for name, wrongs in [("who", self.WRONG_NAMES), ("what", self.WRONG_NAMES), ("days", self.WRONG_STRETCHES),
                             ("amounts", self.WRONG_STRETCHES)]:
            for wrong in wrongs + [Box(), Book(), nested(20)]:
                with self.assertRaises(BadBox) as caught:
                    Box(**{name: wrong})
                self.assertEqual(caught.exception.part, name)

    def test_of_several_wrong_parts_the_first_one_is_named(self):
        names = ["who", "what", "days", "amounts"]
        for many in range(2, 5):
            for lot in itertools.combinations(names, many):
                with self.assertRaises(BadBox) as caught:
                    Box(**{name: -1 for name in reversed(lot)})
                self.assertEqual(caught.exception.part, lot[0])


class SalesInBoxes(unittest.TestCase):
    def test_all_sales_are_in_the_box_of_all(self):
        for sale in [("a", "b", 0, 0), ("abcdefgh", "tea", BIG, BIG)]:
            self.assertIs(sale in Box(), True)

    def test_names(self):
        self.assertIn(("ann", "tea", 1, 1), Box("ann"))
        self.assertIn(("ann", "tea", 1, 1), Box(None, "tea"))
        self.assertIn(("ann", "tea", 1, 1), Box("ann", "tea"))
        self.assertNotIn(("bob", "tea", 1, 1), Box("ann"))
        self.assertNotIn(("ann", "ann", 1, 1), Box("ann", "tea"))
        self.assertNotIn(("tea", "ann", 1, 1), Box("ann", "tea"))

    def test_first_and_last_number_are_in_a_stretch(self):
        for part, sale_of in [("days", lambda k: ("a", "a", k, 50)), ("amounts", lambda k: ("a", "a", 50, k))]:
            box = Box(**{part: (3, 5)})
            self.assertEqual([k for k in range(10) if sale_of(k) in box], [3, 4, 5])
            box = Box(**{part: (7, None)})
            self.assertEqual([k for k in range(10) if sale_of(k) in box], [7, 8, 9])
            self.assertIn(sale_of(BIG), box)
            box = Box(**{part: (4, 4)})
            self.assertEqual([k for k in range(10) if sale_of(k) in box], [4])

    def test_no_other_value_is_in_a_box(self):
        things = other_kinds() + [None, ["a", "a", 1, 1], ("a", "a", 1), ("a", "a", 1, 1, 1), ("a", "a", True, 1),
                                  ("a", "a", 1, False), ("a", "a", -1, 1), (None, "a", 1, 1), ("A", "a", 1, 1),
                                  Box(), Book(), nested(20)]
        for thing in things:
            self.assertIs(thing in Box(), False)


def small_boxes():
    """Boxes of few names and small stretches; what two of them have in common is one of them."""
    names, stretches = [None, "a", "b"], [(0, None), (0, 1), (1, 1), (1, 2), (2, 2), (2, None)]
    return [Box(*parts) for parts in itertools.product(names, [None, "a"], stretches, [(0, None), (1, 2), (2, 2)])]


def small_sales():
    """Sales of each sort that small boxes part: c is a name that none has, 3 is behind all of their numbers."""
    return list(itertools.product(["a", "b", "c"], ["a", "c"], range(4), range(4)))


class AgainstSales(unittest.TestCase):
    """What is said of boxes is held against the sales that are in them."""

    @classmethod
    def setUpClass(cls):
        cls.boxes = small_boxes()
        sales = small_sales()
        cls.sales = [frozenset(k for k, sale in enumerate(sales) if sale in box) for box in cls.boxes]
        cls.box_of = dict(zip(cls.sales, cls.boxes))

    def test_two_boxes(self):
        for one, in_one in zip(self.boxes, self.sales):
            for other, in_other in zip(self.boxes, self.sales):
                self.assertIs(one.is_within(other), in_one <= in_other)
                both = in_one & in_other
                self.assertEqual(one & other, self.box_of[both] if both else None)

    def test_three_boxes(self):
        step = 7
        trio = zip(self.boxes, self.sales)
        for (one, in_one), (two, in_two), (three, in_three) in itertools.combinations(list(trio)[::step], 3):
            both = in_one & in_two & in_three
            self.assertEqual(meeting([one, two, three]), self.box_of[both] if both else None)

    def test_boxes_meet_if_each_two_do(self):
        for some in itertools.combinations(self.boxes[::11], 3):
            by_twos = all((one & other) is not None for one, other in itertools.combinations(some, 2))
            self.assertEqual(meeting(some) is not None, by_twos)

    def test_a_sale_of_each(self):
        for box in self.boxes:
            sale = box.a_sale()
            self.assertTrue(is_sale(sale))
            self.assertIn(sale, box)
            self.assertEqual(sale, box.a_sale())


class BothBoxes(unittest.TestCase):
    def test_parts_of_both(self):
        one, other = Box("ann", None, (0, 30), (5, None)), Box(None, "tea", (20, None), (0, 9))
        self.assertEqual(one & other, Box("ann", "tea", (20, 30), (5, 9)))
        self.assertEqual(other & one, Box("ann", "tea", (20, 30), (5, 9)))

    def test_without_end(self):
        self.assertEqual(Box(days=(3, None)) & Box(days=(8, None)), Box(days=(8, None)))
        self.assertEqual(Box() & Box(), Box())

    def test_one_number_in_both(self):
        self.assertEqual(Box(days=(0, 5)) & Box(days=(5, 9)), Box(days=(5, 5)))
        self.assertEqual(Box(amounts=(5, 5)) & Box(amounts=(5, None)), Box(amounts=(5, 5)))

    def test_none_if_no_sale_is_in_both(self):
        for one, other in [(Box("a"), Box("b")), (Box(None, "a"), Box(None, "b")),
                           (Box(days=(0, 4)), Box(days=(5, 9))), (Box(amounts=(6, None)), Box(amounts=(0, 5)))]:
            self.assertIsNone(one & other)
            self.assertIsNone(other & one)

    def test_the_boxes_are_not_changed(self):
        one, other = Box("ann", days=(0, 5)), Box(None, "tea", (3, 9))
        self.assertIsNotNone(one & other)
        self.assertEqual((one, other), (Box("ann", days=(0, 5)), Box(None, "tea", (3, 9))))

    def test_only_boxes_are_joined(self):
        for thing in other_kinds() + [None, Book(), ("a", "a", 1, 1)]:
            with self.assertRaises(TypeError):
                Box() & thing
            with self.assertRaises(TypeError):
                thing & Box()


class Within(unittest.TestCase):
    def test_a_name_alone_is_not_all_names(self):
        self.assertIs(Box("a").is_within(Box()), True)
        self.assertIs(Box().is_within(Box("a")), False)
        self.assertIs(Box(None, "a").is_within(Box()), True)
        self.assertIs(Box().is_within(Box(None, "a")), False)

    def test_a_stretch_with_an_end_holds_none_without(self):
        self.assertIs(Box(days=(5, BIG)).is_within(Box(days=(5, None))), True)
        self.assertIs(Box(days=(5, None)).is_within(Box(days=(5, BIG))), False)

    def test_a_box_is_within_itself(self):
        box = Box("a", "b", (1, 2), (3, 4))
        self.assertIs(box.is_within(box), True)
        self.assertIs(box.is_within(other=Box("a", "b", (1, 2), (3, 4))), True)

    def test_other_values(self):
        for thing in other_kinds() + [None, Book(), Row(Box(), 1), ("a", "a", 1, 1)]:
            with self.assertRaises(BadBox) as caught:
                Box().is_within(thing)
            self.assertEqual(caught.exception.part, "other")


class ASale(unittest.TestCase):
    def test_it_is_in_the_box(self):
        for box in [Box(), Box("ann"), Box(None, "tea"), Box("ann", "tea", (5, 5), (7, None)), Box(days=(BIG, None)),
                    Box("abcdefgh", "zz", (3, 9), (BIG, BIG))]:
            self.assertIn(box.a_sale(), box)
            self.assertIs(is_sale(box.a_sale()), True)

    def test_equal_boxes_give_equal_sales(self):
        self.assertEqual(Box("ann", days=(3, 5)).a_sale(), Box("ann", days=(3, 5)).a_sale())


class Meeting(unittest.TestCase):
    def test_no_box(self):
        self.assertEqual(meeting([]), Box())
        self.assertEqual(meeting(()), Box())

    def test_one_box(self):
        self.assertEqual(meeting([Box("ann", days=(3, 4))]), Box("ann", days=(3, 4)))

    def test_several_boxes(self):
        boxes = [Box("ann", None, (0, 9)), Box(None, "tea", (5, None)), Box(amounts=(2, 3)), Box(days=(7, 20))]
        common = Box("ann", "tea", (7, 9), (2, 3))
        self.assertEqual(meeting(boxes), common)
        self.assertEqual(meeting(tuple(boxes)), common)
        self.assertEqual(meeting(boxes=boxes[::-1]), common)

    def test_none_if_they_do_not_meet(self):
        self.assertIsNone(meeting([Box("a"), Box("b")]))
        self.assertIsNone(meeting([Box(), Box("a"), Box(days=(0, 4)), Box(days=(5, 5)), Box()]))

    def test_the_list_is_not_changed(self):
        boxes = [Box("a"), Box(days=(1, 2))]
        meeting(boxes)
        self.assertEqual(boxes, [Box("a"), Box(days=(1, 2))])

    def test_what_is_no_list_of_boxes(self):
        # The wrong value is found, too, where the boxes ahead of it do not meet.
        wrong_lists = [[thing] for thing in other_kinds() + [None]]
        wrong_lists = wrong_lists + [[Box(), None], (Box(), 1), [Box("a"), Box("b"), ()], [[Box()]]]
        for thing in plain_kinds() + wrong_lists + [None, Box(), Book(), Book([Row(Box(), 1)])]:
            with self.assertRaises(BadBox) as caught:
                meeting(thing)
            self.assertEqual(caught.exception.part, "boxes")


class Equality(unittest.TestCase):
    def test_equal_parts(self):
        self.assertEqual(Box(), Box(None, None, (0, None), (0, None)))
        self.assertEqual(Box("a", "b", (1, 2), (3, 4)), Box("a", "b", (1, 2), (3, 4)))
        self.assertFalse(Box("a") != Box("a"))

    def test_one_part_unlike(self):
        box = Box("a", "b", (1, 2), (3, 4))
        for other in [Box("b", "b", (1, 2), (3, 4)), Box("a", None, (1, 2), (3, 4)), Box("a", "b", (1, None), (3, 4)),
                      Box("a", "b", (1, 2), (2, 4))]:
            self.assertNotEqual(box, other)
            self.assertIs(box == other, False)

    def test_no_value_of_another_kind_is_equal(self):
        box = Box()
        for thing in other_kinds() + [None, (None, None, (0, None), (0, None)), Row(Box(), 1), Book()]:
            self.assertIs(box == thing, False)
            self.assertIs(thing == box, False)
            self.assertIs(box != thing, True)


if __name__ == "__main__":
    unittest.main()
