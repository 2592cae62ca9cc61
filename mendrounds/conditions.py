"""Conditions: what checks need of the values of fields."""
from mendrounds.errors import BadCondition, Unlike
from mendrounds.layouts import NUMBER, check_filling, is_value
from mendrounds.spaces import Space
from mendrounds.tokens import constant, tokens_of
from mendrounds.values import ascending, compare

NUMBER_SIGNS = ("=", "!=", "<", "<=", ">", ">=")
WORD_SIGNS = ("=", "!=")
# What compare may return so that a comparison holds.
ORDERS = {"<": (-1,), "<=": (-1, 0), ">": (1,), ">=": (0, 1)}
# Of two words, the one with the greater number is done first.
STRENGTH = {"(": 0, "=>": 1, "or": 2, "and": 3, "not": 4}
# What comes behind an atom: the words before it that are at least so strong are done now. So `=>` leaves an
# earlier `=>` for later, and is read from the right.
DOES_FIRST = {")": 1, "=>": 2, "or": 2, "and": 3}


def _constant_at(pairs, at, kind):
    value = constant(pairs[at][1])
    if not is_value(kind, value):
        raise BadCondition(pairs[at][0])
    return value


def _choices_at(pairs, at, kind):
    """The constants in brackets from this token on, and the index of the token behind them."""
    if pairs[at][1] != "(":
        raise BadCondition(pairs[at][0])
    found = [_constant_at(pairs, at + 1, kind)]
    at = at + 2
    while pairs[at][1] == ",":
        found.append(_constant_at(pairs, at + 1, kind))
        at = at + 2
    if pairs[at][1] != ")":
        raise BadCondition(pairs[at][0])
    return tuple(found), at + 1


def _comparison_at(pairs, at, layout):
    """The step for FIELD SIGN OTHER; of the last two parts one is None: the other field, or the constant."""
    name = pairs[at][1]
    sign_at, sign = pairs[at + 1]
    kind = layout.kind(name)
    if sign not in (NUMBER_SIGNS if kind == NUMBER else WORD_SIGNS):
        raise BadCondition(sign_at)
    other = pairs[at + 2][1]
    if other in layout and layout.kind(other) == kind:
        return (sign, name, other, None)
    return (sign, name, None, _constant_at(pairs, at + 2, kind))


def _atom_at(pairs, at, layout):
    """The step for an atom without `not` and brackets around it, and the index of the token behind it."""
    position, token = pairs[at]
    if token in ("true", "false"):
        return (token,), at + 1
    if token not in layout:
        raise BadCondition(position)
    sign = pairs[at + 1][1]
    if sign == "given":
        return (sign, token), at + 2
    if sign == "in":
        choices, end = _choices_at(pairs, at + 2, layout.kind(token))
        return (sign, token, choices), end
    return _comparison_at(pairs, at, layout), at + 3


def _many_left(waiting, position, token):
    """How many of the waiting words wait on when this token comes behind an atom."""
    if token not in DOES_FIRST:
        raise BadCondition(position)
    left = len(waiting)
    while left > 0 and STRENGTH[waiting[left - 1]] >= DOES_FIRST[token]:
        left = left - 1
    if token == ")" and left == 0:
        raise BadCondition(position)
    return left


def _steps_of(pairs, layout):
    """The steps that tell whether a condition holds, each a tuple: an atom gives a truth, a word takes the last ones.

    The last of the pairs has an empty token: no condition goes on with it.
    """
    steps = []
    waiting = []
    at = 0
    wants_atom = True
    while wants_atom or pairs[at][1] != "":
        position, token = pairs[at]
        if wants_atom and token in ("not", "("):
            waiting.append(token)
            at = at + 1
        elif wants_atom:
            step, at = _atom_at(pairs, at, layout)
            steps.append(step)
            wants_atom = False
        else:
            left = _many_left(waiting, position, token)
            steps.extend([(word,) for word in waiting[left:][::-1]])
            wants_atom = token != ")"
            waiting = waiting[:left]
            if wants_atom:
                waiting.append(token)
            else:
                waiting.pop()
            at = at + 1
    if "(" in waiting:
        raise BadCondition(pairs[at][0])
    steps.extend([(word,) for word in waiting[::-1]])
    return steps


def _compares(sign, one, other):
    if one is None or other is None:
        return False
    if sign in ORDERS:
        return compare(one, other) in ORDERS[sign]
    return (one == other) == (sign == "=")


def _atom_holds(step, filling):
    if len(step) == 1:
        return step[0] == "true"
    sign = step[0]
    value = filling[step[1]]
    if sign == "given":
        return value is not None
    if sign == "in":
        return value in step[2]
    other = step[3] if step[2] is None else filling[step[2]]
    return _compares(sign, value, other)


def _joined_truth(word, one, other):
    if word == "and":
        return one and other
    return (one or other) if word == "or" else (not one or other)


class Condition:
    """A condition over a layout."""

    def __init__(self, text, layout):
        if not isinstance(text, str):
            raise BadCondition(-1)
        pairs = tokens_of(text)
        self._steps = _steps_of([*pairs, (len(text), "")], layout)
        self._tokens = [pair[1] for pair in pairs]
        self.layout = layout
        constants = [constant(token) for token in self._tokens]
        self.numbers = ascending([one for one in constants if one is not None and not isinstance(one, str)])
        self.words = tuple(sorted(set([one for one in constants if isinstance(one, str)])))

    def __call__(self, filling):
        check_filling(self.layout, filling)
        return self.holds(filling)

    def holds(self, filling):
        """Whether it holds for what surely is a filling."""
        truths = []
        for step in self._steps:
            if step[0] == "not":
                truths.append(not truths.pop())
            elif step[0] in STRENGTH:
                other = truths.pop()
                one = truths.pop()
                truths.append(_joined_truth(step[0], one, other))
            else:
                truths.append(_atom_holds(step, filling))
        return truths.pop()

    def mentions(self):
        """The fields that it mentions, in the order of the layout."""
        return [name for name in self.layout.names if name in self._tokens]

    def __str__(self):
        return " ".join(self._tokens)

    def __eq__(self, other):
        return isinstance(other, Condition) and self.layout == other.layout and self._tokens == other._tokens

    def __and__(self, other):
        return self._joined(other, "and")

    def __or__(self, other):
        return self._joined(other, "or")

    def __rshift__(self, other):
        return self._joined(other, "=>")

    def __invert__(self):
        return Condition(f"not ( {self} )", self.layout)

    def _joined(self, other, word):
        if self.layout != other.layout:
            raise Unlike()
        return Condition(f"( {self} ) {word} ( {other} )", self.layout)

    def breach(self, other):
        """A filling for which this one holds and the other does not; None if there is none."""
        space = Space.of(self, other)
        for pattern in space.each():
            filling = space.fill(pattern)
            if self.holds(filling) and not other.holds(filling):
                return filling
        return None

    def implies(self, other):
        """Whether the other one holds for each filling for which this one does."""
        return self.breach(other) is None
