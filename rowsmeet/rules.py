"""Words that put rows ahead of others, and rules of several words."""

from rowsmeet.books import check_at
from rowsmeet.checks import check_book
from rowsmeet.errors import BadRule
from rowsmeet.kinds import is_list

# What each word looks at; akin words look at the same.
LOOKS = {
    "narrowest": "box", "widest": "box",
    "newest": "entry", "oldest": "entry",
    "cheapest": "price", "dearest": "price",
    "highest": "rank", "lowest": "rank",
}

# The words that put ahead the row that has more of what they look at.
MOST = ("widest", "newest", "dearest", "highest")


def is_narrower(book, one, other):
    """Whether the box of one row is within the box of the other one and not equal to it."""
    box, other_box = book[one].box, book[other].box
    return box != other_box and box.is_within(other_box)


def is_older(book, one, other):
    """Whether one row was entered earlier than the other one."""
    return one < other


def is_cheaper(book, one, other):
    """Whether one row has a lesser price than the other one."""
    return book[one].price < book[other].price


def is_lower(book, one, other):
    """Whether one row has a lesser rank than the other one."""
    return book[one].rank < book[other].rank


HAS_LESS = {"box": is_narrower, "entry": is_older, "price": is_cheaper, "rank": is_lower}


def is_word(thing):
    """Whether the value is one of the eight words."""
    return isinstance(thing, str) and thing in LOOKS


def are_words(thing):
    """Whether the value is a list of different words."""
    return is_list(thing) and all([is_word(word) for word in thing]) and len(set(thing)) == len(thing)


def live_words(words):
    """The words with neither a word akin to them nor one of entry ahead of them."""
    live, looked_at = [], []
    for word in words:
        # Any two rows are parted by their entry, so that nothing is left for later words.
        if LOOKS[word] not in looked_at and "entry" not in looked_at:
            live.append(word)
        looked_at.append(LOOKS[word])
    return tuple(live)


class Rule:
    """Different words, the first of which that parts two rows tells which one beats the other. It never changes."""

    def __init__(self, words=()):
        if not are_words(words):
            raise BadRule("not a list of different words")
        self.all_words = tuple(words)
        self.those_live = live_words(words)

    @property
    def words(self):
        """The tuple of all words."""
        return self.all_words

    @property
    def live(self):
        """The tuple of the words that part two rows in some book."""
        return self.those_live

    def __eq__(self, other):
        return isinstance(other, Rule) and self.all_words == other.all_words


def check_rule(rule):
    """BadRule unless the value is a rule."""
    if not isinstance(rule, Rule):
        raise BadRule("not a rule")


def check_two_rows(book, one, other):
    """BadBook unless it is a book, NoRow unless both are indexes of rows of it."""
    check_book(book)
    check_at(book, one)
    check_at(book, other)


def ahead(word, book, one, other):
    """Whether the word puts the row one ahead of the row other."""
    if not is_word(word):
        raise BadRule("not a word")
    check_two_rows(book, one, other)
    has_less = HAS_LESS[LOOKS[word]]
    return has_less(book, other, one) if word in MOST else has_less(book, one, other)


def parts(rule, book, one, other):
    """The word that parts two rows, None if none does."""
    check_rule(rule)
    check_two_rows(book, one, other)
    for word in rule.words:
        if ahead(word, book, one, other) or ahead(word, book, other, one):
            return word
    return None


def beats(rule, book, one, other):
    """Whether the row one beats the row other."""
    word = parts(rule, book, one, other)
    return word is not None and ahead(word, book, one, other)
