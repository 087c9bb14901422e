"""What the document says of logs, once more: each row is looked at by all that came to be known of it."""

import random

from rowsmeet.books import Book, Row
from rowsmeet.boxes import Box
from tests.plain import Plain, some_row


def plain_known(entries, day):
    """The rows that stand by the entries known on a day or earlier, and their numbers."""
    deeds = [deed for known, deed in entries if known <= day]
    rows, numbers = [], []
    for number, row in enumerate([deed[1] for deed in deeds if deed[0] == "put"]):
        ends = [deed[2] for deed in deeds if deed[0] == "end" and deed[1] == number]
        first, last = row.box.days
        for end in ends:
            last = end - 1 if last is None or end <= last else last
        if ("take", number) not in deeds and (last is None or first <= last):
            rows.append(Row(Box(row.box.who, row.box.what, (first, last), row.box.amounts), row.price, row.rank))
            numbers.append(number)
    return Book(rows), tuple(numbers)


def plain_told(words, entries, sale, day):
    """What the book known on a day tells."""
    plain = Plain(words, plain_known(entries, day)[0])
    return plain.told_of(tuple(plain.rows_at(sale)))


def can_stand(entries, entry):
    """Whether an entry, made of the right parts, can stand behind others that can."""
    known, deed = entry
    if entries and known < entries[-1][0]:
        return False
    return deed[0] == "put" or deed[1] in plain_known(entries, known)[1]


def some_entry(chance, day):
    """An entry that may or may not stand on or behind a day."""
    known = day + chance.choice([0, 0, 1, 2])
    deed = chance.choice(["put", "put", "end", "take"])
    if deed == "put":
        return known, ("put", some_row(chance))
    if deed == "end":
        return known, ("end", chance.randrange(6), chance.choice([0, 1, 2, 2, 3, 4, 9]))
    return known, ("take", chance.randrange(6))


def some_logs(many, seed):
    """So many lists of entries that make up a log."""
    chance, logs = random.Random(seed), []
    for number in range(many):
        entries, day = [], chance.choice([0, 0, 1, 3])
        while len(entries) < number % 13:
            entry = some_entry(chance, day)
            puts = [deed for known, deed in entries + [entry] if deed[0] == "put"]
            if len(puts) <= 6 and can_stand(entries, entry):
                entries.append(entry)
                day = entry[0]
            elif chance.random() < 0.02:
                break
        logs.append(entries)
    return logs
