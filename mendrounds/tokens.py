"""Tokens: what conditions and the lines of forms are written with."""
from mendrounds.errors import BadNumber
from mendrounds.values import DIGITS, LETTERS, LONGEST_WORD, read_number, written

LONG_SIGNS = ("!=", "<=", ">=", "=>")
QUOTE = "'"
BLANK = "blank"


def _behind(text, at, signs):
    """The position behind the run of these characters that begins at a position."""
    while at < len(text) and text[at] in signs:
        at = at + 1
    return at


def _behind_numeral(text, at):
    first = at + 1 if text[at] == "-" else at
    end = _behind(text, first, DIGITS)
    if end == first:
        return at
    below = _behind(text, end + 1, DIGITS)
    return below if text[end:end + 1] == "/" and below > end + 1 else end


def _behind_quoted(text, at):
    end = _behind(text, at + 1, LETTERS)
    is_word = 1 <= end - at - 1 <= LONGEST_WORD
    return end + 1 if is_word and text[end:end + 1] == QUOTE else at


def _behind_token(text, at):
    if text[at] in LETTERS:
        return _behind(text, at, LETTERS)
    if text[at] == QUOTE:
        end = _behind_quoted(text, at)
    elif text[at:at + 2] in LONG_SIGNS:
        end = at + 2
    else:
        end = _behind_numeral(text, at)
    # What is left is a sign of one character, or a character that begins no token: that counts as one, too.
    return max(end, at + 1)


def tokens_of(text):
    """The tokens of a text: pairs of the position of the first character, and the token."""
    found = []
    at = 0
    while at < len(text):
        end = at + 1
        if text[at] != " ":
            end = _behind_token(text, at)
            found.append((at, text[at:end]))
        at = end
    return found


def constant(token):
    """The number or word that a token stands for; None if it is no constant, or a numeral of no number."""
    if len(token) > 1 and token.startswith(QUOTE):
        return token[1:-1]
    try:
        return read_number(token)
    except BadNumber:
        return None


def token_of(value):
    """The token that stands for a number, a word or blank."""
    if value is None:
        return BLANK
    return f"{QUOTE}{value}{QUOTE}" if isinstance(value, str) else written(value)
