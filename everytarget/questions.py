"""The answers of a question in a book, and those of them that are certain."""

from everytarget.matches import matches
from everytarget.values import is_constant, text_of, values_of_slots


def answers(question, book):
    """The list of the answers, each once, ascending as tuples."""
    found = {}
    for slots, body in question:
        for binding, _ in matches(body, book, {}):
            answer = values_of_slots(slots, binding)
            found[tuple([text_of(value) for value in answer])] = answer
    return [found[texts] for texts in sorted(found)]


def certain(question, book):
    """The list of the answers of constants alone, ascending as tuples."""
    return [answer for answer in answers(question, book) if all(is_constant(value) for value in answer)]


def is_answer(question, book, answer):
    """True if the tuple is an answer of the question in the book."""
    return answer in answers(question, book)
