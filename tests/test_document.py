"""The examples of the document, as they are printed there."""

import doctest
import unittest

FIRST = '''
>>> from rowsmeet.asking import by_pairs, by_rounds, told
>>> from rowsmeet.books import Book, Row
>>> from rowsmeet.boxes import Box
>>> from rowsmeet.firmness import rings, shaky
>>> from rowsmeet.rules import Rule
>>> summer, week = Row(Box(days=(0, 90)), 10), Row(Box(days=(30, 36)), 7)
>>> ann = Row(Box("ann", days=(33, None)), 8)
>>> book, rule, sale = Book([week, ann, summer]), Rule(["narrowest", "newest"]), ("ann", "tea", 35, 2)
>>> (by_pairs(rule, book, sale), by_rounds(rule, book, sale), told(rule, book, sale))
(None, (1,), 8)
>>> (rings(rule, book), shaky(Rule(["newest"]), book))
([(0, 2, 1)], None)
'''

SECOND = '''
>>> from rowsmeet.entry import count_entries, entry_pairs
>>> from rowsmeet.orders import is_always_firm, parting
>>> (is_always_firm(rule), is_always_firm(Rule(["dearest", "newest", "narrowest"])))
(False, True)
>>> parting(Rule(["cheapest", "dearest"]), Rule(["cheapest"])) is None
True
>>> (entry_pairs(Rule(["newest"]), book), count_entries(Rule(["newest"]), book))
([(0, 2), (1, 2)], 2)
'''


class Examples(unittest.TestCase):
    def test_examples(self):
        # The second example goes on with the names of the first one.
        examples = doctest.DocTestParser().get_doctest(FIRST + SECOND, {}, "DOC.md", None, 0)
        result = doctest.DocTestRunner().run(examples)
        self.assertEqual((result.failed, result.attempted), (0, 15))


if __name__ == "__main__":
    unittest.main()
