"""What rules do in all books, held against all books of up to three rows.

What a rule says of two rows hangs on how their boxes lie, on how their prices
and their ranks compare, and on which was entered first. So there are only so
many different books of two or of three rows that meet, and all are made here.
Larger books are drawn besides.
"""

import functools
import itertools
import random
import unittest

from rowsmeet.books import Book, Row
from rowsmeet.boxes import Box, is_sale
from rowsmeet.errors import BadRule, TooMany
from rowsmeet.firmness import is_firm
from rowsmeet.orders import (
    are_alike, choose_alike, firm_orders, is_always_firm, parting, shaky_book, unlike_choice,
)
from rowsmeet.rules import Rule
from tests.plain import WORDS, Plain, live_words, lists_of_words, some_cases
from tests.values import other_kinds, plain_kinds

LISTS = lists_of_words(3)


def chance_lists(many):
    """Longer lists of words, the same ones each time."""
    chance = random.Random(7)
    return [chance.sample(WORDS, chance.choice([4, 5, 6, 7, 8])) for each in range(many)]


def compared(numbers):
    """How each two of some numbers compare: -1 if the first one is less, 1 if it is greater, 0 if they are equal."""
    return tuple((one > other) - (one < other) for one, other in itertools.combinations(numbers, 2))


def compared_boxes(boxes):
    """How each two of some boxes lie: -1 if the first one is within the second one, 1 the other way, 0 otherwise."""
    pairs = itertools.combinations(boxes, 2)
    within = [(one.is_within(other), other.is_within(one)) for one, other in pairs]
    return tuple(other - one for one, other in within), tuple(one and other for one, other in within)


def one_of_each(choices, key):
    """One choice for each value of the key, the first one."""
    found = {}
    for choice in choices:
        found.setdefault(key(choice), choice)
    return list(found.values())


@functools.cache
def all_books(many, looks):
    """All books of so many rows that meet, as to the sides at which words look: their signs for each word."""
    corners = [Box(days=(0, day), amounts=(0, amount)) for day in range(3) for amount in range(3)]
    boxes = one_of_each(itertools.product(corners, repeat=many), compared_boxes)
    assert len(boxes) == {2: 4, 3: 29}[many]
    numbers = one_of_each(itertools.product(range(many), repeat=many), compared)
    assert len(numbers) == {2: 3, 3: 13}[many]
    return [signs_of(*sides) for sides in itertools.product(
        boxes if "box" in looks else boxes[:1], numbers if "price" in looks else numbers[:1],
        numbers if "rank" in looks else numbers[:1])]


def signs_of(boxes, prices, ranks):
    """For each word and each two rows: 1 if it puts the first one ahead, -1 if the second one, 0 if neither."""
    narrower, cheaper, lower = [tuple(-sign for sign in signs) for signs in
                                [compared_boxes(boxes)[0], compared(prices), compared(ranks)]]
    older = tuple(1 for pair in itertools.combinations(boxes, 2))
    signs = {"narrowest": narrower, "cheapest": cheaper, "lowest": lower, "oldest": older}
    for word, other in [("widest", "narrowest"), ("dearest", "cheapest"), ("highest", "lowest"), ("newest", "oldest")]:
        signs[word] = tuple(-sign for sign in signs[other])
    return signs


def books_for(words, many):
    """All books of so many rows, as to the sides at which these words look."""
    looks = {"narrowest": "box", "widest": "box", "cheapest": "price", "dearest": "price", "highest": "rank",
             "lowest": "rank", "newest": "entry", "oldest": "entry"}
    return all_books(many, frozenset(looks[word] for word in words))


def outcomes(words, signs):
    """Which one of each two rows beats the other, as signs."""
    return [next((signs[word][pair] for word in words if signs[word][pair]), 0) for pair in range(len(signs["oldest"]))]


PAIRS = {2: [(0, 1)], 3: [(0, 1), (0, 2), (1, 2)]}


def best_by_pairs(words, signs, many):
    """The row that beats all others, None if there is none."""
    won = [0] * many
    for (one, other), sign in zip(PAIRS[many], outcomes(words, signs)):
        won[one] += sign > 0
        won[other] += sign < 0
    return won.index(many - 1) if many - 1 in won else None


def left_by_rounds(words, signs, many):
    """The rows that are left by rounds."""
    left = list(range(many))
    for word in words:
        gone = set()
        for (one, other), sign in zip(PAIRS[many], signs[word]):
            if sign and one in left and other in left:
                gone.add(other if sign > 0 else one)
        left = [at for at in left if at not in gone]
    return left


def is_any_shaky(words, many):
    """Whether the rows of some book of so many rows that all meet have no row by pairs."""
    return any(best_by_pairs(words, signs, many) is None for signs in books_for(words, many))


def is_any_unlike(words, many):
    """Whether in some such book one row alone is left by rounds and none by pairs."""
    return any(best_by_pairs(words, signs, many) is None and len(left_by_rounds(words, signs, many)) == 1
               for signs in books_for(words, many))


class Checks(unittest.TestCase):
    def assert_book_and_sale(self, found, many):
        """A pair of a book of so many rows and a sale."""
        self.assertEqual((found.__class__, len(found)), (tuple, 2))
        self.assertEqual((found[0].__class__, len(found[0])), (Book, many))
        self.assertIs(is_sale(found[1]), True)

    def assert_shaky(self, words, many):
        """A book of so many rows that is not whole, and a sale that shows it."""
        found = shaky_book(Rule(words))
        self.assert_book_and_sale(found, many)
        plain = Plain(words, found[0])
        self.assertNotEqual(plain.rows_at(found[1]), [])
        self.assertIsNone(plain.by_pairs_of(plain.rows_at(found[1])))

    def assert_unlike(self, words):
        """A book of three rows, and a sale of which one row alone is left by rounds and none by pairs."""
        found = unlike_choice(Rule(words))
        self.assert_book_and_sale(found, 3)
        plain = Plain(words, found[0])
        lot = plain.rows_at(found[1])
        self.assertEqual(len(plain.rounds_of(lot)[-1]), 1)
        self.assertIsNone(plain.by_pairs_of(lot))


class AlwaysFirm(Checks):
    def test_the_rules_of_the_document(self):
        self.assertIs(is_always_firm(Rule(["narrowest", "newest"])), False)
        self.assertIs(is_always_firm(Rule(["dearest", "newest", "narrowest"])), True)

    def test_rules_of_no_word_and_of_one(self):
        self.assertIs(is_always_firm(Rule()), False)
        for word in WORDS:
            self.assertIs(is_always_firm(Rule([word])), word in ("newest", "oldest"))

    def test_all_rules_of_up_to_three_words(self):
        for words in LISTS:
            # A book of one row is whole, so that two rows are the fewest.
            fewest = next((many for many in [2, 3] if is_any_shaky(words, many)), None)
            self.assertIs(is_always_firm(Rule(words)), fewest is None, words)
            if fewest is None:
                self.assertIsNone(shaky_book(Rule(words)))
            else:
                self.assert_shaky(words, fewest)

    def test_longer_rules(self):
        for words in chance_lists(400):
            live = live_words(words)
            parts_all = "newest" in live or "oldest" in live
            firm = parts_all and "narrowest" not in live and "widest" not in live
            self.assertIs(is_always_firm(Rule(words)), firm)
            if firm:
                self.assertIsNone(shaky_book(Rule(words)))
            else:
                self.assert_shaky(words, 3 if parts_all else 2)

    def test_books_of_up_to_six_rows_are_firm(self):
        firm_rules = [Rule(words) for words in LISTS if is_always_firm(Rule(words))]
        for at, (words, book) in enumerate(some_cases(500, 8)):
            rule = firm_rules[at % len(firm_rules)]
            self.assertIs(is_firm(rule, book), True)
            self.assertIs(Plain(rule.words, book).is_whole(), True)


class ChooseAlike(Checks):
    def test_some_rules(self):
        for words in [[], ["newest"], ["narrowest"], ["cheapest", "widest"], ["narrowest", "widest"],
                      ["newest", "narrowest", "cheapest"], ["highest", "cheapest", "oldest"]]:
            self.assertIs(choose_alike(Rule(words)), True, words)
            self.assertIsNone(unlike_choice(Rule(words)))
        for words in [["narrowest", "newest"], ["widest", "cheapest"], ["highest", "narrowest", "widest", "lowest", "oldest"]]:
            self.assertIs(choose_alike(Rule(words)), False, words)
            self.assert_unlike(words)

    def test_all_rules_of_up_to_three_words(self):
        for words in LISTS:
            self.assertIs(is_any_unlike(words, 2), False)
            unlike = is_any_unlike(words, 3)
            self.assertIs(choose_alike(Rule(words)), not unlike, words)
            if unlike:
                self.assert_unlike(words)
            else:
                self.assertIsNone(unlike_choice(Rule(words)))

    def test_longer_rules(self):
        for words in chance_lists(400):
            live = live_words(words)
            alike = not any(word in ("narrowest", "widest") for word in live[:-1])
            self.assertIs(choose_alike(Rule(words)), alike)
            if alike:
                self.assertIsNone(unlike_choice(Rule(words)))
            else:
                self.assert_unlike(words)

    def test_books_of_up_to_six_rows(self):
        alike_rules = [Rule(words) for words in LISTS if choose_alike(Rule(words))]
        for at, (words, book) in enumerate(some_cases(500, 9)):
            plain = Plain(alike_rules[at % len(alike_rules)].words, book)
            for lot in plain.cells:
                left = plain.rounds_of(lot)[-1]
                if len(left) == 1:
                    self.assertEqual(plain.by_pairs_of(lot), left[0])


class Alike(Checks):
    def test_the_rules_of_the_document(self):
        self.assertIsNone(parting(Rule(["cheapest", "dearest"]), Rule(["cheapest"])))
        self.assertIs(are_alike(Rule(["cheapest", "dearest"]), Rule(["cheapest"])), True)

    def test_a_rule_and_itself(self):
        for words in LISTS:
            self.assertIs(are_alike(Rule(words), Rule(words)), True)
            self.assertIsNone(parting(Rule(words), Rule(words)))

    def test_the_order_of_words_counts(self):
        self.check(["cheapest", "highest"], ["highest", "cheapest"], False)
        self.check(["narrowest", "newest"], ["newest", "narrowest"], False)
        self.check(["newest", "narrowest"], ["newest", "cheapest"], True)
        self.check([], ["oldest"], False)

    def test_all_rules_of_up_to_three_words(self):
        # What a rule says of all books is what it says of each two rows.
        books = all_books(2, frozenset(["box", "price", "rank"]))
        said = [tuple(outcomes(words, signs)[0] for signs in books) for words in LISTS]
        for one, said_by_one in zip(LISTS, said):
            for other, said_by_other in zip(LISTS, said):
                self.check(one, other, said_by_one == said_by_other)

    def test_longer_rules(self):
        lists = chance_lists(300)
        for one, other in zip(lists, lists[1:]):
            self.check(one, other, live_words(one) == live_words(other))
            self.check(one, live_words(one), True)
            self.check(one, live_words(one)[:-1], False)
            self.check(live_words(one)[:1], one, len(live_words(one)) == 1)

    def check(self, one, other, alike):
        rule, other_rule = Rule(one), Rule(other)
        self.assertIs(are_alike(rule, other_rule), alike, (one, other))
        found = parting(rule, other_rule)
        if alike:
            self.assertIsNone(found, (one, other))
            return
        # A book of one row has this row by pairs, whatever the rule.
        self.assert_book_and_sale(found, 2)
        book, sale = found
        text = (tuple((row.box.days, row.box.amounts, row.box.who, row.box.what, row.price, row.rank) for row in book), sale)
        self.assertNotEqual(best_of(tuple(one), text), best_of(tuple(other), text), (one, other))


@functools.cache
def best_of(words, text):
    """The row by pairs of a sale of a book that is given by the sides of its rows."""
    sides, sale = text
    plain = Plain(words, Book([Row(Box(who, what, days, amounts), price, rank)
                               for days, amounts, who, what, price, rank in sides]))
    return plain.by_pairs_of(plain.rows_at(sale))


class FirmOrders(unittest.TestCase):
    def test_no_word_and_one(self):
        self.assertEqual(firm_orders([]), [])
        self.assertEqual(firm_orders(()), [])
        for word in WORDS:
            self.assertEqual(firm_orders([word]), [(word,)] if word in ("newest", "oldest") else [])

    def test_some_words(self):
        self.assertEqual(firm_orders(["narrowest", "newest"]), [("newest", "narrowest")])
        self.assertEqual(firm_orders(["newest", "cheapest"]), [("cheapest", "newest"), ("newest", "cheapest")])
        self.assertEqual(firm_orders(["oldest", "newest"]), [("newest", "oldest"), ("oldest", "newest")])
        self.assertEqual(firm_orders(["narrowest", "cheapest", "highest"]), [])
        self.assertEqual(firm_orders(words=("widest", "oldest", "dearest")),
                         [("dearest", "oldest", "widest"), ("oldest", "dearest", "widest"), ("oldest", "widest", "dearest")])

    def test_all_lists_of_up_to_five_words(self):
        for many in range(6):
            for lot in itertools.combinations(WORDS, many):
                expected = [order for order in sorted(itertools.permutations(lot)) if is_always_firm(Rule(order))]
                self.assertEqual(firm_orders(list(lot)), expected)
                self.assertEqual(firm_orders(lot[::-1]), expected)
        self.assertEqual(len(firm_orders(["newest", "cheapest", "dearest", "highest", "lowest"])), 120)

    def test_more_than_five_words(self):
        for words in [WORDS[:6], WORDS[2:], WORDS[:7], WORDS, tuple(WORDS)]:
            with self.assertRaises(TooMany) as caught:
                firm_orders(words)
            self.assertEqual(caught.exception.most, 5)

    def test_no_list_of_different_words(self):
        for things in [["newest", "newest"], ["new"], ["newest", None], ["newest", ["oldest"]], [("newest",)], [Rule()],
                       WORDS + ["newest"], WORDS[:5] + ["cheapest"], WORDS[:5] + ["new"], WORDS + [None], [[]]]:
            self.assertRaises(BadRule, firm_orders, things)
            self.assertRaises(BadRule, firm_orders, tuple(things))
        for thing in other_kinds():
            self.assertRaises(BadRule, firm_orders, ["newest", thing])
        for thing in plain_kinds() + [None, 0, "newest", {"newest": 1}, Rule(["newest"]), Book()]:
            self.assertRaises(BadRule, firm_orders, thing)

    def test_the_list_is_not_changed_and_the_result_is_new(self):
        words = ["newest", "cheapest"]
        found = firm_orders(words)
        self.assertEqual(words, ["newest", "cheapest"])
        found.clear()
        self.assertEqual(len(firm_orders(words)), 2)


class Results(unittest.TestCase):
    def test_equal_arguments_give_equal_results(self):
        for words in LISTS:
            self.assertEqual(shaky_book(Rule(words)), shaky_book(Rule(tuple(words))))
            self.assertEqual(unlike_choice(Rule(words)), unlike_choice(Rule(tuple(words))))
            self.assertEqual(parting(Rule(words), Rule(["newest"])), parting(Rule(tuple(words)), Rule(("newest",))))


if __name__ == "__main__":
    unittest.main()
