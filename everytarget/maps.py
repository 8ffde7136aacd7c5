"""Maps of a book into another one, and the map of the outcome of a chase into a target."""

from everytarget.matches import first_match
from everytarget.values import book_of, depth, frontier, is_constant, is_value, text_of, texts_of


def values_by_text(book):
    """The values of the facts of a book, by their texts."""
    return {text_of(value): value for _, values in book for value in values}


def values_of(book):
    """The list of the values of the facts, each once, ascending as tuples."""
    found = values_by_text(book)
    return [found[text] for text in sorted(found)]


def values_by_depth(book):
    """The list of the values of the facts and of all values within them, the least deep ones first."""
    found = {}
    waiting = values_of(book)
    while waiting:
        value = waiting.pop()
        text = text_of(value)
        if text not in found:
            found[text] = value
            if len(value) == 2:
                waiting.extend(value[1])
    return sorted(found.values(), key=depth)


def image_by_extension(program, other, unknown, images):
    """The value of a made unknown's variable in the least extension of its rule, or None if there is none."""
    label, values = unknown
    number, _, variable = label.partition(".")
    rule = program["rules"][int(number)]
    start = {name: images[text_of(value)] for name, value in zip(frontier(rule), values)}
    extension = first_match(rule[2], other, start)
    return None if extension is None else extension[variable]


def image_of_value(program, other, value, images):
    """The value's image, by the images of the values within it, or None if there is none."""
    if len(value) == 2:
        return image_by_extension(program, other, value, images)
    return value if is_constant(value) else None


def into(program, book, other):
    """The map of the outcome of a chase into another book by least extensions, or None."""
    images = {}
    for value in values_by_depth(book):
        image = image_of_value(program, other, value, images)
        if image is None:
            return None
        images[text_of(value)] = image
    found = {value: images[text_of(value)] for value in values_of(book)}
    return found if judge_map(book, other, found) else None


def is_image_for(value, image):
    """True if a map may give the value this image; for any value as the image."""
    return is_value(image) and (image == value or not is_constant(value))


def judge_map(book, other, image):
    """True if this is a dict from just the values of the book and a map into the other book; for any value."""
    if not isinstance(image, dict) or not all(is_value(value) for value in image):
        return False
    values = values_of(book)
    if len(image) != len(values) or not all(value in image for value in values):
        return False
    if not all(is_image_for(value, image[value]) for value in values):
        return False
    there = texts_of(other)
    return all(text_of(fact) in there for fact in image_of(book, image))


def image_of(book, image):
    """The book of the images of the facts."""
    return book_of([(relation, tuple([image[value] for value in values])) for relation, values in book])
