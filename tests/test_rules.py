"""Words and rules: which row a word puts ahead, which word parts two rows, which row beats."""

import itertools
import unittest

from rowsmeet.books import Book, Row
from rowsmeet.boxes import Box
from rowsmeet.errors import BadRule
from rowsmeet.rules import Rule, ahead, beats, parts
from tests.plain import AKIN, WORDS, Plain, live_words, lists_of_words, some_cases
from tests.values import nested, other_kinds, plain_kinds, row

NO_WORDS = ["", "Newest", "newest ", " newest", "new", "newestnewest", "newest oldest", "*", "live"]


class Rules(unittest.TestCase):
    def test_no_word(self):
        for rule in [Rule(), Rule([]), Rule(()), Rule(words=[])]:
            self.assertEqual((rule.words, rule.live), ((), ()))

    def test_all_eight_words_in_any_order(self):
        for at in range(8):
            words = WORDS[at:] + WORDS[:at]
            self.assertEqual(Rule(words).words, tuple(words))
            self.assertEqual(Rule(words[::-1]).words, tuple(words[::-1]))

    def test_each_word(self):
        for word in WORDS:
            self.assertEqual((Rule([word]).words, Rule([word]).live), ((word,), (word,)))

    def test_a_list_and_a_tuple(self):
        for words in [["newest"], ["cheapest", "oldest"], WORDS]:
            self.assertEqual(Rule(tuple(words)), Rule(words))
            self.assertEqual(Rule(words=tuple(words)).words, tuple(words))

    def test_words_and_live_are_tuples(self):
        self.assertEqual(Rule(["newest"]).words.__class__, tuple)
        self.assertEqual(Rule(["newest"]).live.__class__, tuple)

    def test_a_word_twice(self):
        for word in WORDS:
            for words in [[word, word], (word, word), [word, "newest", word, "cheapest"], WORDS + [word]]:
                self.assertRaises(BadRule, Rule, words)

    def test_a_string_that_is_no_word(self):
        for thing in NO_WORDS:
            for words in [[thing], (thing,), ["newest", thing], [thing, "newest"], WORDS + [thing]]:
                self.assertRaises(BadRule, Rule, words)

    def test_values_of_other_kinds_within_the_list(self):
        things = other_kinds() + [None, 0, 1, ["newest"], ("newest",), {"newest": True}, b"newest", nested(20), Box(),
                                  Book(), row(), Rule(["newest"])]
        for thing in things:
            for words in [[thing], (thing,), ["newest", thing], [thing, "newest"], [thing, thing]]:
                self.assertRaises(BadRule, Rule, words)

    def test_no_list(self):
        things = plain_kinds() + [None, 0, "newest", "a", {"newest": True}, Rule(), Rule(["newest"]), Box(), Book(), row()]
        for thing in things:
            self.assertRaises(BadRule, Rule, thing)

    def test_later_changes_to_the_list(self):
        words = ["narrowest", "newest"]
        rule = Rule(words)
        self.assertEqual(words, ["narrowest", "newest"])
        words.append("cheapest")
        words[0] = "widest"
        self.assertEqual((rule.words, rule.live), (("narrowest", "newest"), ("narrowest", "newest")))
        words.clear()
        self.assertEqual(rule, Rule(["narrowest", "newest"]))

    def test_words_cannot_be_assigned(self):
        rule = Rule(["newest"])
        for name in ["words", "live"]:
            with self.assertRaises(AttributeError):
                setattr(rule, name, ())
        self.assertEqual(rule, Rule(["newest"]))

    def test_equal_if_words_are(self):
        for one, other in itertools.product(lists_of_words(2), repeat=2):
            self.assertIs(Rule(one) == Rule(other), one == other)
            self.assertIs(Rule(one) != Rule(other), one != other)

    def test_rules_with_the_same_live_words_are_not_equal(self):
        self.assertNotEqual(Rule(["newest", "oldest"]), Rule(["newest"]))

    def test_no_value_of_another_kind_is_equal(self):
        for rule in [Rule(), Rule(["newest"])]:
            for thing in other_kinds() + [None, ("newest",), ["newest"], "newest", Box(), Book(), row()]:
                self.assertIs(rule == thing, False)
                self.assertIs(thing == rule, False)
                self.assertIs(rule != thing, True)


class Live(unittest.TestCase):
    def test_behind_an_akin_word(self):
        for one, other in AKIN:
            self.assertEqual(Rule([one, other]).live, (one,))
            self.assertEqual(Rule([other, one]).live, (other,))
        self.assertEqual(Rule(["widest", "lowest", "narrowest", "dearest", "highest"]).live, ("widest", "lowest", "dearest"))

    def test_behind_newest_and_oldest(self):
        for word in ["newest", "oldest"]:
            for other in WORDS:
                if other != word:
                    self.assertEqual(Rule([word, other]).live, (word,))
        self.assertEqual(Rule(["cheapest", "oldest", "highest", "narrowest"]).live, ("cheapest", "oldest"))

    def test_behind_a_word_that_is_not_live(self):
        self.assertEqual(Rule(["cheapest", "dearest", "highest"]).live, ("cheapest", "highest"))
        self.assertEqual(Rule(["newest", "cheapest", "dearest"]).live, ("newest",))

    def test_four_at_most(self):
        self.assertEqual(Rule(WORDS).live, ("narrowest", "newest"))
        self.assertEqual(Rule(["lowest", "highest", "dearest", "cheapest", "widest", "narrowest", "oldest", "newest"]).live,
                         ("lowest", "dearest", "widest", "oldest"))

    def test_all_rules_of_up_to_four_words(self):
        for words in lists_of_words(4):
            self.assertEqual(Rule(words).live, tuple(live_words(words)))

    def test_a_word_is_live_if_it_parts_two_rows_of_some_book(self):
        boxes = [Box(days=(0, 1)), Box(days=(0, 2)), Box(amounts=(0, 1))]
        kinds = [Row(*sides) for sides in itertools.product(boxes, [1, 2], [1, 2])]
        books = [Book([kinds[0], other]) for other in kinds] + [Book([other, kinds[-1]]) for other in kinds]
        for words in lists_of_words(3):
            rule = Rule(words)
            self.assertEqual({parts(rule, book, 0, 1) for book in books} - {None}, set(rule.live), words)


WEEK, SUMMER, ANN = Box(days=(30, 36)), Box(days=(0, 90)), Box("ann", days=(33, None))

# Rows alike but for the side at which a word looks: the first one is ahead, the second one behind.
LEADING = {
    "narrowest": [Row(WEEK, 5, 5), Row(SUMMER, 5, 5)],
    "widest": [Row(SUMMER, 5, 5), Row(WEEK, 5, 5)],
    "cheapest": [Row(WEEK, 0, 5), Row(WEEK, 1, 5)],
    "dearest": [Row(WEEK, 10 ** 12, 5), Row(WEEK, 5, 5)],
    "highest": [Row(WEEK, 5, 9), Row(WEEK, 5, 8)],
    "lowest": [Row(WEEK, 5, 0), Row(WEEK, 5, 1)],
}
OPPOSITE = dict(AKIN + [(other, one) for one, other in AKIN])


class Ahead(unittest.TestCase):
    def test_each_word_but_those_of_entry(self):
        for word, (leader, follower) in LEADING.items():
            for at, book in [(0, Book([leader, follower])), (1, Book([follower, leader]))]:
                self.assertIs(ahead(word, book, at, 1 - at), True, word)
                self.assertIs(ahead(word, book, 1 - at, at), False, word)
                self.assertIs(ahead(OPPOSITE[word], book, at, 1 - at), False, word)
                self.assertIs(ahead(OPPOSITE[word], book, 1 - at, at), True, word)
                for other in LEADING:
                    if other not in (word, OPPOSITE[word]):
                        self.assertIs(ahead(other, book, 0, 1), False, (word, other))
                        self.assertIs(ahead(other, book, 1, 0), False, (word, other))

    def test_newest_and_oldest(self):
        book = Book([row(5)] * 6)
        for one, other in itertools.product(range(6), repeat=2):
            self.assertIs(ahead("newest", book, one, other), one > other)
            self.assertIs(ahead("oldest", book, one, other), one < other)

    def test_equal_boxes(self):
        book = Book([Row(ANN, 5), Row(Box("ann", days=(33, None)), 5)])
        for word in ["narrowest", "widest"]:
            self.assertIs(ahead(word, book, 0, 1), False)
            self.assertIs(ahead(word, book, 1, 0), False)

    def test_boxes_across_and_boxes_that_do_not_meet(self):
        others = [SUMMER, Box("bob", days=(40, 50)), Box(None, "tea"), Box("ann", days=(0, 50)), Box("ann", days=(0, 5))]
        for other in others:
            book = Book([Row(ANN, 5), Row(other, 5)])
            for word in ["narrowest", "widest"]:
                self.assertIs(ahead(word, book, 0, 1), False)
                self.assertIs(ahead(word, book, 1, 0), False)

    def test_boxes_within_by_each_part(self):
        for outer in [Box(None, "tea", (30, None), (2, 9)), Box("ann", None, (30, None), (2, 9)),
                      Box("ann", "tea", (33, None), (2, 9)), Box("ann", "tea", (30, None), (2, None)),
                      Box("ann", "tea", (30, None), (1, 9)), Box()]:
            inner = Box("ann", "tea", (40, 50) if outer.days == (33, None) else (30, None), (2, 9))
            book = Book([Row(outer, 5), Row(inner, 5)])
            self.assertIs(ahead("narrowest", book, 1, 0), True)
            self.assertIs(ahead("narrowest", book, 0, 1), False)
            self.assertIs(ahead("widest", book, 0, 1), True)
            self.assertIs(ahead("widest", book, 1, 0), False)

    def test_a_row_and_itself(self):
        book = Book([Row(WEEK, 5, 5), Row(SUMMER, 6, 6)])
        for word in WORDS:
            for at in range(2):
                self.assertIs(ahead(word, book, at, at), False)


class Beating(unittest.TestCase):
    def test_each_word_alone(self):
        for word, (leader, follower) in LEADING.items():
            for at, book in [(0, Book([leader, follower])), (1, Book([follower, leader]))]:
                for one, other in [(0, 1), (1, 0)]:
                    self.assertEqual(parts(Rule([word]), book, one, other), word)
                    self.assertIs(beats(Rule([word]), book, one, other), one == at)
                    self.assertEqual(parts(Rule([OPPOSITE[word]]), book, one, other), OPPOSITE[word])
                    self.assertIs(beats(Rule([OPPOSITE[word]]), book, one, other), one != at)

    def test_newest_and_oldest_alone(self):
        book = Book([row(5)] * 3)
        for one, other in itertools.permutations(range(3), 2):
            self.assertEqual(parts(Rule(["newest"]), book, one, other), "newest")
            self.assertIs(beats(Rule(["newest"]), book, one, other), one > other)
            self.assertEqual(parts(Rule(["oldest"]), book, one, other), "oldest")
            self.assertIs(beats(Rule(["oldest"]), book, one, other), one < other)

    def test_the_first_word_that_parts_counts(self):
        book = Book([Row(SUMMER, 5, 2), Row(WEEK, 5, 3), Row(SUMMER, 6, 2)])
        rule = Rule(["cheapest", "narrowest", "lowest", "newest"])
        self.assertEqual([parts(rule, book, 0, 1), parts(rule, book, 0, 2), parts(rule, book, 2, 1)],
                         ["narrowest", "cheapest", "cheapest"])
        self.assertEqual([beats(rule, book, 0, 1), beats(rule, book, 1, 0), beats(rule, book, 0, 2)], [False, True, True])
        rule = Rule(["lowest", "newest", "cheapest"])
        self.assertEqual([parts(rule, book, 0, 1), parts(rule, book, 0, 2)], ["lowest", "newest"])
        self.assertEqual([beats(rule, book, 0, 1), beats(rule, book, 2, 0)], [True, True])

    def test_unparted_rows(self):
        book = Book([Row(SUMMER, 5, 2), Row(ANN, 5, 3)])
        for words in [[], ["cheapest"], ["dearest", "cheapest"], ["narrowest", "widest", "cheapest"]]:
            for one, other in [(0, 1), (1, 0)]:
                self.assertIsNone(parts(Rule(words), book, one, other))
                self.assertIs(beats(Rule(words), book, one, other), False)

    def test_a_row_and_itself(self):
        for words in [[], WORDS] + [[word] for word in WORDS]:
            self.assertIsNone(parts(Rule(words), Book([row(5)]), 0, 0))
            self.assertIs(beats(Rule(words), Book([row(5)]), 0, 0), False)

    def test_rows_that_do_not_meet_are_parted_too(self):
        book = Book([row(5, who="ann"), row(6, who="bob")])
        self.assertEqual(parts(Rule(["cheapest"]), book, 1, 0), "cheapest")
        self.assertIs(beats(Rule(["cheapest"]), book, 0, 1), True)

    def test_many_books(self):
        for words, book in some_cases(400, 1):
            plain, rule = Plain(words, book), Rule(words)
            for one, other in itertools.product(range(len(book)), repeat=2):
                self.assertEqual(parts(rule, book, one, other), plain.parts(one, other))
                self.assertIs(beats(rule, book, one, other), plain.beats(one, other))
                for word in WORDS:
                    self.assertIs(ahead(word, book, one, other), plain.ahead(word, one, other))


if __name__ == "__main__":
    unittest.main()
