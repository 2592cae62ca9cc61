"""Spaces: the patterns that the fillings of a layout have."""
from mendrounds.errors import BadField, BadFilling, BadPattern, NoFilling, TooMany, Unlike
from mendrounds.layouts import NUMBER, WORD, check_filling, first_wrong
from mendrounds.values import LETTERS, ascending, between, compare, is_whole, number, place


def _distinct(things):
    """The things of a list, each once, as they first come."""
    found = []
    for thing in things:
        if thing not in found:
            found.append(thing)
    return found


def _ways(fields, constants, ordered):
    """How many patterns there are for so many fields of one kind.

    They are counted by the number of different values that are no constants: a further field is blank,
    has a constant, has one of these values, or has a new one, which an order can put in several places.
    """
    ways = [1]
    for _ in range(fields):
        longer = [0] * (len(ways) + 1)
        for different, many in enumerate(ways):
            places = constants + different + 1 if ordered else 1
            longer[different] = longer[different] + many * (1 + constants + different)
            longer[different + 1] = many * places
        ways = longer
    return sum(ways)


def _settled_entry(entry, kind, others):
    """The entry of a pattern for a raw one (see Space._settled), others being the raw ones it is counted among."""
    if kind == NUMBER and entry != ():
        slot, value = entry
        return (slot, len([other for other in others if other[0] == slot and compare(other[1], value) < 0]))
    if entry in others:
        return (1, others.index(entry))
    return entry


def _with_numbers_between(known, entries):
    """The values of known entries, and of these further ones, in the order that the entries have."""
    found = {entry: known[entry] for entry in known}
    for entry in sorted(entries):
        if entry not in found:
            lower = [other for other in found if other < entry]
            upper = [other for other in found if other > entry]
            low = found[max(lower)] if lower else None
            high = found[min(upper)] if upper else None
            found[entry] = between(low, high)
    return found


def _fresh_word(taken):
    # One and two letters give 702 words: more than the constants and fields of a space together.
    for start in ["", *LETTERS]:
        for last in LETTERS:
            if start + last not in taken:
                return start + last
    return None


def _with_fresh_words(known, entries):
    """The values of known entries, and of these further ones, each another word."""
    found = {entry: known[entry] for entry in known}
    for entry in entries:
        if entry not in found:
            found[entry] = _fresh_word(list(found.values()))
    return found


class Space:
    """The patterns over a layout and the constants that conditions compare its fields with."""

    MOST = 160

    def __init__(self, layout, numbers, words):
        kinds = [layout.kind(name) for name in layout.names]
        number_ways = _ways(kinds.count(NUMBER), len(set(numbers)), True)
        word_ways = _ways(kinds.count(WORD), len(set(words)), False)
        if number_ways * word_ways > self.MOST:
            raise TooMany("patterns")
        self.layout = layout
        self.numbers = ascending(numbers)
        self.words = tuple(sorted(set(words)))
        self._kinds = tuple(kinds)
        self._count = number_ways * word_ways

    @classmethod
    def of(cls, *things):
        """The space of one or more conditions and forms."""
        layout = things[0].layout
        for thing in things:
            if thing.layout != layout:
                raise Unlike()
        numbers = [one for thing in things for one in thing.numbers]
        words = [one for thing in things for one in thing.words]
        return cls(layout, numbers, words)

    def __len__(self):
        return len(range(self._count))

    def __contains__(self, thing):
        if not isinstance(thing, tuple) or len(thing) != len(self._kinds):
            return False
        fits = all([self._is_entry(entry, kind) for entry, kind in zip(thing, self._kinds)])
        return fits and self._settled(thing) == thing

    def _is_entry(self, thing, kind):
        """Whether any value is an entry for a field of the kind, as far as it alone can tell."""
        if not isinstance(thing, tuple) or not all([is_whole(part) for part in thing]):
            return False
        if len(thing) != 2:
            return thing == ()
        first, second = thing
        if kind == NUMBER:
            return 0 <= first <= 2 * len(self.numbers) and (first % 2 == 0 or second == 0)
        return first == 1 or (first == 0 and 0 <= second < len(self.words))

    def _settled(self, entries):
        """The pattern for raw entries, of the first fields or all.

        The second part of a raw entry of a number is any number that stands as the ranks do, that of a
        word without a constant is anything that this word alone has.
        """
        pairs = list(zip(entries, self._kinds))
        numbers = _distinct([entry for entry, kind in pairs if kind == NUMBER and entry != ()])
        words = _distinct([entry for entry, kind in pairs if kind == WORD and entry != () and entry[0] == 1])
        return tuple([_settled_entry(entry, kind, numbers if kind == NUMBER else words) for entry, kind in pairs])

    def _further_numbers(self, entries):
        """A raw entry for each way in which a number can follow the entries of the fields before it."""
        before = _distinct([entry for entry, kind in zip(entries, self._kinds) if kind == NUMBER])
        found = [()]
        for slot in range(2 * len(self.numbers) + 1):
            ranks = len([entry for entry in before if entry != () and entry[0] == slot])
            if slot % 2 == 1:
                found.append((slot, 0))
            else:
                # Halves stand between the ranks that are there, below and above them.
                found.extend([(slot, number(half - 1, 2)) for half in range(2 * ranks + 1)])
        return found

    def _further_words(self, entries):
        before = _distinct([entry for entry, kind in zip(entries, self._kinds) if kind == WORD])
        fresh = len([entry for entry in before if entry != () and entry[0] == 1])
        return [(), *[(0, at) for at in range(len(self.words))], *[(1, at) for at in range(fresh + 1)]]

    def _further(self, entries, kind):
        return self._further_numbers(entries) if kind == NUMBER else self._further_words(entries)

    def each(self):
        """All patterns, ascending."""
        found = [()]
        for kind in self._kinds:
            found = [self._settled((*start, entry)) for start in found for entry in self._further(start, kind)]
        yield from sorted(found)

    def _raw_entry(self, value, kind):
        if value is None:
            return ()
        if kind == NUMBER:
            below = place(self.numbers, value)
            is_constant = below < len(self.numbers) and self.numbers[below] == value
            return (2 * below + 1 if is_constant else 2 * below, value)
        if value in self.words:
            return (0, self.words.index(value))
        return (1, value)

    def pattern_of(self, filling):
        """The pattern of a filling."""
        check_filling(self.layout, filling)
        values = [filling[name] for name in self.layout.names]
        return self._settled([self._raw_entry(value, kind) for value, kind in zip(values, self._kinds)])

    def without(self, pattern, names):
        """The remainder of a pattern without the fields of these names."""
        if pattern not in self:
            raise BadPattern(pattern)
        for name in names:
            if name not in self.layout:
                raise BadField(name)
        return self._settled([() if name in names else entry for name, entry in zip(self.layout.names, pattern)])

    def fill(self, pattern, *, kept=None):
        """A filling with this pattern, and with the values that the dict kept has for some fields."""
        if pattern not in self:
            raise BadPattern(pattern)
        values = {} if kept is None else kept
        if not isinstance(values, dict) or not all([name in self.layout for name in values]):
            raise BadFilling(None)
        wrong = first_wrong(self.layout, values)
        if wrong is not None:
            raise BadFilling(wrong)
        if not self._agrees(pattern, values):
            raise NoFilling(pattern)
        return self._filled(pattern, values)

    def _agrees(self, pattern, kept):
        """Whether the kept values, by themselves, stand as in the pattern; then others can join them."""
        others = [name for name in self.layout.names if name not in kept]
        alone = {name: kept.get(name) for name in self.layout.names}
        return self.pattern_of(alone) == self.without(pattern, others)

    def _known(self, pattern, kept, kind):
        """The values that the constants and the kept values of a kind give to entries: a dict."""
        if kind == NUMBER:
            found = {(2 * at + 1, 0): one for at, one in enumerate(self.numbers)}
        else:
            found = {(0, at): one for at, one in enumerate(self.words)}
        for name, entry, own in zip(self.layout.names, pattern, self._kinds):
            if own == kind and kept.get(name) is not None:
                found[entry] = kept[name]
        return found

    def _filled(self, pattern, kept):
        numbers = [entry for entry, kind in zip(pattern, self._kinds) if kind == NUMBER and entry != ()]
        words = [entry for entry, kind in zip(pattern, self._kinds) if kind == WORD and entry != ()]
        values = {
            NUMBER: _with_numbers_between(self._known(pattern, kept, NUMBER), numbers),
            WORD: _with_fresh_words(self._known(pattern, kept, WORD), words),
        }
        fields = list(zip(self.layout.names, pattern, self._kinds))
        return {name: values[kind].get(entry) for name, entry, kind in fields}
