"""Classes of values that are equal, and the names of these classes."""

from everytarget.values import is_constant, text_of, value_key


def least_of(unknowns):
    """The least one of some made unknowns of the same depth."""
    return unknowns[0] if len(unknowns) == 1 else min(unknowns, key=text_of)


def key_of(value, numbers):
    """What a value is entered by, with the numbers of the classes of a made unknown's values."""
    return value[0] if len(value) == 1 else (value[0], tuple(numbers))


class Classes:
    """Parts values into sets of values that are equal.

    A class goes by the number of one of its values. A made unknown is entered by
    its label and the numbers of the classes of its values: so what is equal by
    closure has the same key, and no key is deep, however deep the values are.
    """

    def __init__(self):
        # Each of these lists has one item for each number.
        self._values = []
        self._joined_to = []
        self._keys = []
        self._has_constant = []
        # The made unknowns that have a value of this class, once for each such place.
        self._users = []
        self._numbers = {}
        self._many = 0
        self._has_clash = False
        # None as long as they are not known after values were made equal.
        self._names = {}

    def add(self, value):
        """Adds a value, and a made unknown's values too."""
        self.number(value)

    def join_values(self, one, other):
        """Adds both values and makes them equal, and what is equal by closure then."""
        waiting = [(self.number(one), self.number(other))]
        while waiting:
            left, right = waiting.pop()
            kept, lost = self.settled(left), self.settled(right)
            if len(self._users[kept]) < len(self._users[lost]):
                kept, lost = lost, kept
            if kept != lost:
                waiting.extend(self._merge(kept, lost))

    def same(self, one, other):
        """Adds both values; True if they are equal."""
        return self.number(one) == self.number(other)

    def root(self, value):
        """Adds the value; the value that stands for all values of its class."""
        return self._values[self.number(value)]

    def name(self, value):
        """Adds the value; the least value that can be made for its class."""
        return self.name_of(self.number(value))

    def clash(self):
        """True if two different constants are equal."""
        return self._has_clash

    def count(self):
        """The number of classes."""
        return self._many

    def number(self, value):
        """Adds the value; the number of its class."""
        return self._visit(value, True)

    def number_if_there(self, value):
        """The number of the value's class, or None if it is equal to no value that was added."""
        return self._visit(value, False)

    def settled(self, number):
        """The number by which the class of this number goes now."""
        while self._joined_to[number] != number:
            # The next search from here has half the way.
            self._joined_to[number] = self._joined_to[self._joined_to[number]]
            number = self._joined_to[number]
        return number

    def name_of(self, number):
        """The name of the class that this number belongs to."""
        if self._names is None:
            self._names = self._all_names()
        return self._names[self.settled(number)]

    def _visit(self, value, adding):
        """The number of a value's class; what is not there is added, or else gives None."""
        numbers = []
        # A list of what waits, for values may stand deeper than calls may nest.
        waiting = [(value, False)]
        while waiting:
            part, is_opened = waiting.pop()
            if len(part) == 2 and not is_opened:
                waiting.append((part, True))
                waiting.extend([(inner, False) for inner in part[1][::-1]])
            else:
                first = len(numbers) - len(part[1]) if len(part) == 2 else len(numbers)
                key = key_of(part, numbers[first:])
                del numbers[first:]
                if key not in self._numbers:
                    if not adding:
                        return None
                    self._enter(part, key)
                numbers.append(self.settled(self._numbers[key]))
        return numbers[0]

    def _enter(self, value, key):
        """Gives a value that is equal to no other one a class of its own."""
        number = len(self._values)
        self._values.append(value)
        self._joined_to.append(number)
        self._keys.append(key)
        self._has_constant.append(is_constant(value))
        self._users.append([])
        self._numbers[key] = number
        self._many += 1
        if len(value) == 2:
            for part in key[1]:
                self._users[part].append(number)
        if self._names is not None:
            self._names[number] = self._named(number, self._names)

    def _merge(self, kept, lost):
        """Makes two classes one; the pairs of made unknowns that have the same key by it."""
        if self._has_constant[kept] and self._has_constant[lost]:
            self._has_clash = True
        self._has_constant[kept] = self._has_constant[kept] or self._has_constant[lost]
        self._joined_to[lost] = kept
        self._many -= 1
        self._names = None
        users = list(self._users[lost])
        self._users[kept].extend(users)
        self._users[lost] = []
        pairs = []
        for user in users:
            pairs.append((user, self._enter_anew(user)))
        return pairs

    def _enter_anew(self, number):
        """Enters a made unknown by the classes of its values now; the number that has this key."""
        label, parts = self._keys[number]
        if self._numbers.get((label, parts)) == number:
            del self._numbers[(label, parts)]
        key = (label, tuple([self.settled(part) for part in parts]))
        self._keys[number] = key
        return self._numbers.setdefault(key, number)

    def _named(self, number, names):
        """A value, with the names of their classes for a made unknown's values."""
        value = self._values[number]
        if len(value) == 1:
            return value
        _, parts = self._keys[number]
        return (value[0], tuple([names[part] for part in parts]))

    def _plain_names(self):
        """The names of the classes that have a constant or a free unknown."""
        names = {}
        for number, value in enumerate(self._values):
            if len(value) == 1:
                place = self.settled(number)
                if place not in names or value_key(value) < value_key(names[place]):
                    names[place] = value
        return names

    def _all_names(self):
        """The names of all classes, by their numbers.

        They are found depth by depth. A name of lesser depth for a value can make
        the unknown around it greater in the order of tuples, so no name is taken
        before all names of the depths below are there.
        """
        names = self._plain_names()
        missing = [len(value[1]) if len(value) == 2 else 0 for value in self._values]
        ready = [at for at, value in enumerate(self._values) if len(value) == 2 and missing[at] == 0]
        latest = list(names)
        while latest or ready:
            for number in latest:
                for user in self._users[number]:
                    missing[user] -= 1
                    if missing[user] == 0:
                        ready.append(user)
            found = self._unknowns_by_class(ready, names)
            for number in found:
                names[number] = least_of(found[number])
            latest = list(found)
            ready = []
        return names

    def _unknowns_by_class(self, numbers, names):
        """The made unknowns with these numbers, each once, for the classes that have no name yet."""
        found = {}
        for number in numbers:
            place = self.settled(number)
            if place not in names and self._numbers[self._keys[number]] == number:
                found.setdefault(place, []).append(self._named(number, names))
        return found
