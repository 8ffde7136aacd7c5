"""Keepers: the outcome of a chase under changes of the source book."""

from everytarget.chase import chased
from everytarget.ends import ring
from everytarget.errors import NotValid
from everytarget.groups import linked_groups
from everytarget.values import book_of, frontier, text_of, texts_of, variables_of


def names_constant(atoms):
    """True if a constant is among the slots of the atoms."""
    return any(not isinstance(slot, str) for _, slots in atoms for slot in slots)


def is_linked(atoms):
    """True if the atoms cannot be parted into two groups without a common variable."""
    return len(linked_groups([variables_of((atom,)) for atom in atoms])) == 1


def stays_in_islands(rule):
    """True if all that the rule does comes from the facts of one island."""
    if not is_linked(rule[1]) or names_constant(rule[1]):
        return False
    return rule[0] == "same" or (len(frontier(rule)) > 0 and not names_constant(rule[2]))


def parts_in_islands(program):
    """True if the source facts of the program are parted into islands."""
    return all(stays_in_islands(rule) for rule in program["rules"])


def islands(program, source):
    """The list of the islands of a source book, ascending."""
    if len(source) == 0:
        return []
    if not parts_in_islands(program):
        return [source]
    groups = linked_groups([[text_of(value) for value in values] for _, values in source])
    return [tuple([source[at] for at in group]) for group in groups]


def text_of_book(book):
    """A string for a book, which no other book has."""
    return "\n".join([text_of(fact) for fact in book])


class Keeper:
    """Keeps the outcome of the chase of a source book that changes."""

    def __init__(self, program):
        if ring(program) is not None:
            raise NotValid()
        # A copy, for the caller's own program may change.
        self._program = {
            "source": dict(program["source"]), "target": dict(program["target"]), "rules": program["rules"]}
        self._source = ()
        # The outcome of each island, by the text of its book.
        self._outcomes = {}

    def add(self, facts):
        """Adds facts to the source; the number of islands that were chased anew."""
        return self._change(book_of(list(self._source) + list(facts)))

    def take(self, facts):
        """Takes facts away from the source; the number of islands that were chased anew."""
        gone = texts_of(facts)
        return self._change(tuple([fact for fact in self._source if text_of(fact) not in gone]))

    def source(self):
        """The source book."""
        return self._source

    def outcome(self):
        """The outcome of the chase of the source book."""
        facts = []
        for kind, book in self._outcomes.values():
            if kind == "clash":
                return ("clash", ())
            facts.extend(book)
        return ("target", book_of(facts))

    def _change(self, source):
        """Takes a new source book; the number of islands that were chased anew."""
        outcomes = {}
        many = 0
        for island in islands(self._program, source):
            text = text_of_book(island)
            if text in self._outcomes:
                outcomes[text] = self._outcomes[text]
            else:
                outcomes[text] = chased(self._program, island, ())
                many += 1
        self._source = source
        self._outcomes = outcomes
        return many
