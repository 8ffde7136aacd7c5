"""The choice of a row for each pattern, such that equal slots of patterns get equal texts.

A pattern is a tuple of slots, a row of the pattern is a tuple of as many texts.
What is tried is narrowed first: a row whose text for a slot is found in no row of
another pattern with this slot can stand in no choice.
"""


def texts_by_slot(patterns, choices):
    """For each slot the texts that it has in some row of each pattern in which it stands."""
    found = {}
    for pattern, rows in zip(patterns, choices):
        for at, slot in enumerate(pattern):
            here = {row[at]: True for row in rows}
            if slot in found:
                here = {text: True for text in found[slot] if text in here}
            found[slot] = here
    return found


def without_taken(texts):
    """For each slot its texts without those that are the only text of another slot."""
    takers = {}
    for slot in texts:
        if len(texts[slot]) == 1:
            for text in texts[slot]:
                takers.setdefault(text, slot)
    return {slot: {text: True for text in texts[slot] if takers.get(text, slot) == slot} for slot in texts}


def is_left(pattern, row, texts):
    """True if each slot can still have its text in this row."""
    return all(text in texts[slot] for slot, text in zip(pattern, row))


def narrowed(patterns, choices, is_one_to_one):
    """The rows that can still be chosen for each pattern, or None if there is none for one of them."""
    many = -1
    left = sum([len(rows) for rows in choices])
    while left != many:
        texts = texts_by_slot(patterns, choices)
        if is_one_to_one:
            texts = without_taken(texts)
        choices = [[row for row in rows if is_left(pattern, row, texts)] for pattern, rows in zip(patterns, choices)]
        if any(len(rows) == 0 for rows in choices):
            return None
        many = left
        left = sum([len(rows) for rows in choices])
    return choices


def open_patterns(choices):
    """The indexes of the patterns that have several rows left."""
    return [at for at, rows in enumerate(choices) if len(rows) > 1]


def branches(choices, at):
    """The choices that are left by each row of a pattern, that of the first row last."""
    return [choices[:at] + [[row]] + choices[at + 1:] for row in choices[at][::-1]]


def first_rows(patterns, choices):
    """The row of each pattern in the first choice, by the order of the patterns and their rows; or None."""
    waiting = [choices]
    while waiting:
        left = narrowed(patterns, waiting.pop(), False)
        if left is not None:
            several = open_patterns(left)
            if len(several) == 0:
                return [rows[0] for rows in left]
            waiting.extend(branches(left, several[0]))
    return None


def has_one_to_one(patterns, choices):
    """True if there is a choice that gives different slots different texts."""
    waiting = [choices]
    while waiting:
        left = narrowed(patterns, waiting.pop(), True)
        if left is not None:
            several = open_patterns(left)
            if len(several) == 0:
                return True
            waiting.extend(branches(left, min(several, key=lambda at: len(left[at]))))
    return False
