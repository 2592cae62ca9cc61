"""Points 6 to 9 of DOC.md, worked out straight from their words: which tokens are a condition, and what it means."""
import re
from fractions import Fraction

from oracle import fraction

TOKEN = re.compile("[a-z]+|-?[0-9]+(?:/[0-9]+)?|'[a-z]{1,8}'|!=|<=|>=|=>|[(),=<>]|[^ ]", re.DOTALL)
SIGNS = {"number": ["=", "!=", "<", "<=", ">", ">="], "word": ["=", "!="]}


def tokens_with_places(text):
    return [(found.start(), found.group()) for found in TOKEN.finditer(text)]


def is_numeral(token):
    if not re.fullmatch("-?[0-9]+(/[0-9]+)?", token):
        return False
    top, _, bottom = token.partition("/")
    if bottom == "":
        return str(int(top)) == top
    if int(bottom) == 0:
        return False
    value = Fraction(int(top), int(bottom))
    return value.denominator > 1 and f"{value.numerator}/{value.denominator}" == token


def is_constant(token, kind):
    return is_numeral(token) if kind == "number" else re.fullmatch("'[a-z]{1,8}'", token) is not None


class Grammar:
    """The rules of point 7 over a list of tokens: each gives the indexes at which what begins at one may end."""

    def __init__(self, tokens, kinds):
        self.tokens = tokens
        self.kinds = kinds
        self.known = {}

    def at(self, index):
        return self.tokens[index] if index < len(self.tokens) else None

    def ends(self, rule, start):
        if (rule, start) not in self.known:
            self.known[rule, start] = sorted(set(getattr(self, rule)(start)))
        return self.known[rule, start]

    def condition(self, start):
        for end in self.ends("choice", start):
            yield end
            if self.at(end) == "=>":
                yield from self.ends("condition", end + 1)

    def chain(self, rule, word, start):
        reached = list(self.ends(rule, start))
        for end in reached:
            if self.at(end) == word:
                reached += [one for one in self.ends(rule, end + 1) if one not in reached]
        return reached

    def choice(self, start):
        return self.chain("part", "or", start)

    def part(self, start):
        return self.chain("atom", "and", start)

    def atom(self, start):
        token = self.at(start)
        if token == "not":
            yield from self.ends("atom", start + 1)
        if token == "(":
            for end in self.ends("condition", start + 1):
                if self.at(end) == ")":
                    yield end + 1
        if token in ("true", "false"):
            yield start + 1
        if token in self.kinds:
            yield from self.about(self.kinds[token], start + 1)

    def about(self, kind, start):
        token = self.at(start)
        if token == "given":
            yield start + 1
        if token in SIGNS[kind]:
            other = self.at(start + 1)
            if other is not None and (self.kinds.get(other) == kind or is_constant(other, kind)):
                yield start + 2
        if token == "in" and self.at(start + 1) == "(":
            end = start + 2
            while self.at(end) is not None and is_constant(self.at(end), kind):
                if self.at(end + 1) == ")":
                    yield end + 2
                if self.at(end + 1) != ",":
                    return
                end += 2


def is_condition(tokens, kinds):
    return len(tokens) in Grammar(tokens, kinds).ends("condition", 0)


def can_go_on(tokens, kinds):
    """Whether some condition begins with these tokens; the ways to go on are enough for any that does."""
    heads = ["", "true", "given", "0", "'a'", "( 0 )", "( 'a' )", "0 )", "'a' )", ")"]
    for head in heads:
        for closing in range(tokens.count("(") + 1):
            if is_condition(tokens + head.split() + [")"] * closing, kinds):
                return True
    return False


def wrong_at(text, kinds):
    """Point 8: the position of the error of a text, None if it is a condition."""
    found = tokens_with_places(text)
    for many in range(1, len(found) + 1):
        if not can_go_on([token for _, token in found[:many]], kinds):
            return found[many - 1][0]
    return None if is_condition([token for _, token in found], kinds) else len(text)


# What follows makes conditions of which the meaning is known: trees, written down with the brackets that they need.

LEVELS = {"=>": 1, "or": 2, "and": 3}


def random_tree(chance, kinds, constants, depth):
    """A tree over the fields of the dict kinds, with constants (tokens) by kind."""
    shape = chance.choice(["atom", "not", "and", "or", "=>"] if depth > 0 else ["atom"])
    if shape == "atom":
        return random_atom(chance, kinds, constants)
    many = {"not": 1, "=>": 2}.get(shape) or chance.choice([2, 2, 3])
    return (shape, [random_tree(chance, kinds, constants, depth - 1) for _ in range(many)])


def random_atom(chance, kinds, constants):
    name = chance.choice(sorted(kinds))
    kind = kinds[name]
    shape = chance.choice(["given", "in", "constant", "constant", "field", "field", "true"])
    if shape == "true":
        return ("truth", chance.choice(["true", "false"]))
    if shape == "given":
        return ("given", name)
    if shape == "in":
        return ("in", name, [chance.choice(constants[kind]) for _ in range(chance.randint(1, 3))])
    others = [one for one in sorted(kinds) if kinds[one] == kind] if shape == "field" else constants[kind]
    return ("compare", name, chance.choice(SIGNS[kind]), chance.choice(others))


def tree_tokens(tree, level=1, more=lambda: False):
    """The tokens of a tree at a place that asks for a level; with more brackets where more() says so."""
    shape = tree[0]
    if LEVELS.get(shape, 4) < level or more():
        return ["(", *tree_tokens(tree, 1, more), ")"]
    if shape == "not":
        return ["not", *tree_tokens(tree[1][0], 4, more)]
    if shape == "=>":
        return [*tree_tokens(tree[1][0], 2, more), "=>", *tree_tokens(tree[1][1], 1, more)]
    if shape in LEVELS:
        found = []
        for part in tree[1]:
            found += ([shape] if found else []) + tree_tokens(part, LEVELS[shape] + 1, more)
        return found
    if shape == "in":
        return [tree[1], "in", "(", *" , ".join(tree[2]).split(), ")"]
    return [tree[1]] if shape == "truth" else [tree[1], "given"] if shape == "given" else list(tree[1:])


def worth(token, filling):
    """What a token of a comparison stands for."""
    if token in filling:
        value = filling[token]
        return value if value is None or isinstance(value, str) else fraction(value)
    return token[1:-1] if token.startswith("'") else Fraction(token)


def tree_holds(tree, filling):
    """Point 9."""
    shape = tree[0]
    if shape == "truth":
        return tree[1] == "true"
    if shape == "given":
        return filling[tree[1]] is not None
    if shape == "in":
        return worth(tree[1], filling) in [worth(one, filling) for one in tree[2]]
    if shape == "compare":
        one, other = worth(tree[1], filling), worth(tree[3], filling)
        if one is None or other is None:
            return False
        signs = {"=": one == other, "!=": one != other}
        if not isinstance(one, str):
            signs.update({"<": one < other, "<=": one <= other, ">": one > other, ">=": one >= other})
        return signs[tree[2]]
    parts = [tree_holds(part, filling) for part in tree[1]]
    if shape == "not":
        return not parts[0]
    return {"and": all(parts), "or": any(parts), "=>": not parts[0] or parts[-1]}[shape]


def tree_fields(tree):
    """The fields that a tree mentions, in any order."""
    if tree[0] == "truth":
        return []
    if tree[0] in ("given", "in"):
        return [tree[1]]
    if tree[0] == "compare":
        return [tree[1], tree[3]]
    return [name for part in tree[1] for name in tree_fields(part)]
