"""What DOC.md says of patterns, worked out with fractions, straight from its words."""
from fractions import Fraction
from itertools import product


def fraction(value):
    return Fraction(*value) if isinstance(value, tuple) else Fraction(value)


def value_of(number):
    """The form that DOC.md gives a fraction."""
    return number.numerator if number.denominator == 1 else (number.numerator, number.denominator)


def pattern(kinds, numbers, words, values):
    """Point 11, for a list of values in the order of the fields."""
    constants = sorted({fraction(one) for one in numbers})
    known_words = sorted(set(words))

    def slot(value):
        if value in constants:
            return 2 * constants.index(value) + 1
        return 2 * len([one for one in constants if one < value])

    filled = {fraction(value) for kind, value in zip(kinds, values) if kind == "number" and value is not None}
    entries = []
    for at, (kind, value) in enumerate(zip(kinds, values)):
        if value is None:
            entries.append(())
        elif kind == "number":
            own = fraction(value)
            entries.append((slot(own), len([one for one in filled if slot(one) == slot(own) and one < own])))
        elif value in known_words:
            entries.append((0, known_words.index(value)))
        else:
            first = [k for k, other in enumerate(values) if kinds[k] == "word" and other == value][0]
            before = {values[k] for k in range(first) if kinds[k] == "word" and values[k] is not None}
            entries.append((1, len(before - set(known_words))))
    return tuple(entries)


def candidates(kinds, numbers, words):
    """For each field, values that are enough to stand in every way to the constants and to each other."""
    points = sorted({fraction(one) for one in numbers})
    many = len(kinds)
    found = [Fraction(0)]
    if points:
        found = list(points)
        found += [points[0] - k for k in range(1, many + 1)] + [points[-1] + k for k in range(1, many + 1)]
        for low, high in zip(points, points[1:]):
            found += [low + (high - low) * k / (many + 1) for k in range(1, many + 1)]
    else:
        found = [Fraction(k) for k in range(many)]
    spelled = sorted(set(words)) + ["fresh" + letter for letter in "abcdefgh"][:many]
    of_kind = {"number": [value_of(one) for one in sorted(found)], "word": spelled}
    return [[None] + of_kind[kind] for kind in kinds]


def every_pattern(kinds, numbers, words):
    """All patterns, ascending, found by going through fillings."""
    return sorted({pattern(kinds, numbers, words, values) for values in product(*candidates(kinds, numbers, words))})
