"""What orders of words do in all books: whether these are firm, and whether two rules choose alike."""

from rowsmeet.books import Book, Row
from rowsmeet.boxes import Box
from rowsmeet.errors import TooMany
from rowsmeet.rules import LOOKS, MOST, Rule, check_rule

MOST_WORDS = 5

# To this sale all rows of the books apply that are made here.
SALE = ("a", "a", 0, 0)


def live_looks(rule):
    """The list of what the live words of the rule look at."""
    return [LOOKS[word] for word in rule.live]


def grades(word, many):
    """How much so many rows must have of what the word looks at, so that it puts each ahead of all behind it."""
    upwards = list(range(many))
    return upwards[::-1] if word in MOST else upwards


def graded_book(boxes, grades_of):
    """A book of a row for each box, from narrow to wide: grades_of tells what each row has of what words look at.

    Rows have the same of what is not told; if no order of entry is told, any will do.
    """
    alike = [0] * len(boxes)
    box_grades, entry_grades = grades_of.get("box", alike), grades_of.get("entry", alike)
    price_grades, rank_grades = grades_of.get("price", alike), grades_of.get("rank", alike)
    order = sorted(range(len(boxes)), key=lambda at: entry_grades[at])
    return Book([Row(boxes[box_grades[at]], price_grades[at], rank_grades[at]) for at in order])


def ring_book(rule):
    """Three rows that go in a ring, for a rule with a live word behind a live one that looks at boxes.

    The box in the middle is across both others. So the word of boxes parts only
    these two, and puts ahead the very row that the word behind it puts last:
    this one beats the first one, which beats the middle one, which beats it.
    """
    at = live_looks(rule).index("box")
    box_word, word_behind = rule.live[at], rule.live[at + 1]
    boxes = [Box(days=(0, 0)), Box(amounts=(0, 0)), Box(days=(0, 1))]
    return graded_book(boxes, {"box": grades(box_word, 3)[::-1], LOOKS[word_behind]: grades(word_behind, 3)})


def is_always_firm(rule):
    """Whether all books are firm by the rule."""
    check_rule(rule)
    looks = live_looks(rule)
    return "entry" in looks and "box" not in looks


def shaky_book(rule):
    """A least book that is not whole by the rule, and a sale that shows it; None if all books are firm by it."""
    if is_always_firm(rule):
        return None
    if "entry" in live_looks(rule):
        # Each two rows are parted, so that only a ring of three will do.
        return (ring_book(rule), SALE)
    return (graded_book([Box(), Box()], {}), SALE)


def choose_alike(rule):
    """Whether in all books a row that is left alone by rounds is the row by pairs."""
    check_rule(rule)
    return "box" not in live_looks(rule)[:-1]


def unlike_choice(rule):
    """A least book and a sale of which one row alone is left by rounds, and none by pairs; None if they are alike."""
    if choose_alike(rule):
        return None
    # The word of boxes lets the first row of the ring go, and the word behind it the one that beat it.
    return (ring_book(rule), SALE)


def are_alike(one, other):
    """Whether two rules have the same row by pairs, or none, for each sale in all books."""
    check_rule(one)
    check_rule(other)
    return one.live == other.live


def first_unlike(one, other):
    """The index of the first words that are not the same in two tuples of words."""
    at = 0
    while at < min(len(one), len(other)) and one[at] == other[at]:
        at += 1
    return at


def parting(one, other):
    """A book of two rows and a sale whose rows by pairs are unlike by two rules; None if they choose alike."""
    if are_alike(one, other):
        return None
    at = first_unlike(one.live, other.live)
    grades_of = {}
    for word in other.live[at:at + 1]:
        grades_of[LOOKS[word]] = grades(word, 2)[::-1]
    # Where both words look at the same, they are opposites, and one of them is enough.
    for word in one.live[at:at + 1]:
        grades_of[LOOKS[word]] = grades(word, 2)
    return (graded_book([Box(days=(0, 0)), Box()], grades_of), SALE)


def orders_of(words):
    """All orders of different words, ascending if the words are."""
    if not words:
        return [()]
    return [
        (first, *others) for first in words
        for others in orders_of([word for word in words if word != first])
    ]


def firm_orders(words):
    """The ascending list of the orders of all these words that are always firm as rules."""
    rule = Rule(words)
    if len(rule.words) > MOST_WORDS:
        raise TooMany(MOST_WORDS)
    return [order for order in orders_of(sorted(rule.words)) if is_always_firm(Rule(order))]
