"""The examiner of targets: the first rule that a book does not keep."""

from everytarget.matches import has_match, matches
from everytarget.values import frontier, is_book, text_of


def starts_of(rule, facts):
    """The frontier's values, each once, in the matches of a make rule's body."""
    names = frontier(rule)
    starts = {}
    for binding, _ in matches(rule[1], facts, {}):
        start = {name: binding[name] for name in names}
        starts[tuple([text_of(start[name]) for name in names])] = start
    return list(starts.values())


def keeps_make_rule(rule, source, book):
    """True if there are values of the made variables for each match of the body."""
    for start in starts_of(rule, source + book):
        if not has_match(rule[2], book, start):
            return False
    return True


def keeps_same_rule(rule, book):
    """True if left and right have the same value in each match of the body."""
    _, body, left, right = rule
    for binding, _ in matches(body, book, {}):
        if text_of(binding[left]) != text_of(binding[right]):
            return False
    return True


def keeps_rule(rule, source, book):
    """True if the book of target facts keeps the rule."""
    if rule[0] == "same":
        return keeps_same_rule(rule, book)
    return keeps_make_rule(rule, source, book)


def first_fault(program, source, book):
    """("form", -1), ("rule", number) with the first rule that is not kept, or ("", -1); for any value as the book."""
    if not is_book(book, program["target"]):
        return ("form", -1)
    for number, rule in enumerate(program["rules"]):
        if not keeps_rule(rule, source, book):
            return ("rule", number)
    return ("", -1)


def is_target(program, source, book):
    """True if the book has no fault; for any value as the book."""
    return first_fault(program, source, book) == ("", -1)
