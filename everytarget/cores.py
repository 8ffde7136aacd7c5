"""Maps that are searched for: folds, cores, and books that are alike."""

from everytarget.choices import first_rows, has_one_to_one
from everytarget.groups import linked_groups
from everytarget.maps import image_of, values_by_text, values_of
from everytarget.matches import named_texts
from everytarget.values import is_constant, text_of


def texts_of_values(fact):
    """The tuple of the texts of the fact's values."""
    return tuple([text_of(value) for value in fact[1]])


def unknowns_of(fact):
    """The texts of the fact's values that are no constants."""
    return [text_of(value) for value in fact[1] if not is_constant(value)]


def fits(fact, other):
    """True if values for the unknowns of the fact make it the other one."""
    if fact[0] != other[0]:
        return False
    slots = [value if is_constant(value) else text_of(value) for value in fact[1]]
    return named_texts(slots, texts_of_values(other)) is not None


def images_in(facts, other):
    """The images of the unknowns of the facts, as texts, in the first map of these facts, or None."""
    patterns = [texts_of_values(fact) for fact in facts]
    choices = [[texts_of_values(row) for row in other if fits(fact, row)] for fact in facts]
    rows = first_rows(patterns, choices)
    if rows is None:
        return None
    return {slot: text for pattern, row in zip(patterns, rows) for slot, text in zip(pattern, row)}


def find_map(book, other):
    """The first map of a book into another one as a dict from the values of the book, or None."""
    images = {}
    # Facts without a common unknown have their first images apart from each other.
    for group in linked_groups([unknowns_of(fact) for fact in book]):
        found = images_in([book[at] for at in group], other)
        if found is None:
            return None
        images.update(found)
    values = values_by_text(other)
    return {value: values[images[text_of(value)]] for value in values_of(book)}


def fold(book):
    """The first map of a book into the book without one of its facts, or None."""
    for at, fact in enumerate(book):
        if len(unknowns_of(fact)) > 0:
            image = find_map(book, book[:at] + book[at + 1:])
            if image is not None:
                return image
    return None


def core(book):
    """The book that is left when there is no fold any more."""
    image = fold(book)
    while image is not None:
        book = image_of(book, image)
        image = fold(book)
    return book


def alike(one, other):
    """True if the books are the same up to a one-to-one exchange of unknowns."""
    if len(one) != len(other):
        return False
    patterns = [texts_of_values(fact) for fact in one]
    choices = [[texts_of_values(row) for row in other if fits(fact, row) and fits(row, fact)] for fact in one]
    # As many facts as in the other book, all different, are all its facts.
    return has_one_to_one(patterns, choices)
