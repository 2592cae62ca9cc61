"""Numbers and words: the values that the fields of a form have."""
from math import gcd

from mendrounds.errors import BadNumber

LETTERS = "abcdefghijklmnopqrstuvwxyz"
DIGITS = "0123456789"
LONGEST_WORD = 8


def is_whole(thing):
    """Whether any value is an integer; a truth value is none."""
    return isinstance(thing, int) and not isinstance(thing, bool)


def number(top, bottom=1):
    """The number top/bottom of two integers."""
    if bottom == 0:
        raise BadNumber(bottom)
    shared = gcd(top, bottom)
    if bottom < 0:
        shared = -shared
    if bottom == shared:
        return top // shared
    return (top // shared, bottom // shared)


def is_number(thing):
    """Whether any value is a number."""
    if is_whole(thing):
        return True
    if not isinstance(thing, tuple) or len(thing) != 2:
        return False
    top, bottom = thing
    return is_whole(top) and is_whole(bottom) and bottom >= 2 and gcd(top, bottom) == 1


def is_word(thing):
    """Whether any value is a word."""
    if not isinstance(thing, str) or not 1 <= len(thing) <= LONGEST_WORD:
        return False
    return all([letter in LETTERS for letter in thing])


def _over(value):
    """What stands above and below the line of a number."""
    if is_whole(value):
        return (value, 1)
    return value


def compare(one, other):
    """-1, 0 or 1 as one is less than, equal to or greater than other."""
    top, bottom = _over(one)
    other_top, other_bottom = _over(other)
    left = top * other_bottom
    right = other_top * bottom
    if left < right:
        return -1
    return 1 if left > right else 0


def _negative(over):
    return (-over[0], over[1])


def _simplest_above(low, high):
    """The number with the least denominator between two fractions, low not below 0; high may be 1 over 0."""
    wholes = []
    whole = low[0] // low[1]
    while (whole + 1) * high[1] >= high[0]:
        # Both bounds lie between whole and whole + 1, so what is left of them is turned upside down.
        wholes.append(whole)
        low, high = (high[1], high[0] - whole * high[1]), (low[1], low[0] - whole * low[1])
        whole = low[0] // low[1]
    top, bottom = whole + 1, 1
    for part in wholes[::-1]:
        top, bottom = part * top + bottom, top
    return number(top, bottom)


def between(low, high):
    """A number between low and high; None for a bound stands for none. Digits grow as little as they can."""
    lower = (-1, 0) if low is None else _over(low)
    upper = (1, 0) if high is None else _over(high)
    if lower[0] < 0 < upper[0]:
        return 0
    if lower[0] >= 0:
        return _simplest_above(lower, upper)
    top, bottom = _over(_simplest_above(_negative(upper), _negative(lower)))
    return number(-top, bottom)


def written(value):
    """The written form of a number."""
    top, bottom = _over(value)
    return str(top) if bottom == 1 else f"{top}/{bottom}"


def _is_digits(text):
    return text != "" and all([sign in DIGITS for sign in text])


def read_number(text):
    """The number with this written form."""
    if not isinstance(text, str):
        raise BadNumber(text)
    top, line, bottom = text.partition("/")
    if not _is_digits(top.removeprefix("-")) or (line != "" and not _is_digits(bottom)):
        raise BadNumber(text)
    found = int(top) if line == "" else (int(top), int(bottom))
    # Writing it again shows leading zeros and -0.
    if not is_number(found) or written(found) != text:
        raise BadNumber(text)
    return found


def place(numbers, value):
    """How many of the ascending numbers are less than the value."""
    low = 0
    high = len(numbers)
    while low < high:
        middle = (low + high) // 2
        if compare(numbers[middle], value) < 0:
            low = middle + 1
        else:
            high = middle
    return low


def ascending(numbers):
    """The numbers of a list, ascending, each once: a tuple."""
    found = []
    for one in numbers:
        at = place(found, one)
        if at == len(found) or found[at] != one:
            found.insert(at, one)
    return tuple(found)
