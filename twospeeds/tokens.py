"""The tokens of one line of a text."""

from twospeeds.errors import SyntaxProblem

WORDS = ("var", "a", "b", "if", "then", "else", "not", "and", "or", "mod")
# The longer ones first: a token is the longest one that can start at a place.
SYMBOLS = ("..", ":=", "!=", "<=", ">=", "+", "-", "*", "=", "<", ">", "(", ")")
MOST_TOKENS = 100
LONGEST_NAME = 8
LONGEST_NUMBER = 4


class Line:
    """The tokens of one line, taken one after the other.

    The kind of a token is "name", "number", "end" for the end of the line, or
    the token itself if it is a word or a symbol.
    """

    def __init__(self, text, number):
        self.number = number
        self.tokens = tokens_of(text, number)
        self.taken = 0

    def kind(self):
        """Return the kind of the present token."""
        return self.tokens[self.taken][0]

    def here(self):
        """Return the column of the present token."""
        return self.tokens[self.taken][2]

    def take(self, kind):
        """Return the text of the present token, which has to be of a kind, and leave it behind."""
        found, word, column = self.tokens[self.taken]
        if found != kind:
            raise SyntaxProblem(self.number, column)
        self.taken += 1
        return word


def tokens_of(text, number):
    """Return the list of the tokens (kind, text, column) of a line that has a number."""
    found = []
    at = 0
    while at < len(text):
        if text[at] == " ":
            at += 1
            continue
        word = word_at(text, at)
        kind = kind_of(word)
        if kind is None or len(found) == MOST_TOKENS:
            raise SyntaxProblem(number, at + 1)
        found.append((kind, word, at + 1))
        at += len(word)
    found.append(("end", "", len(text) + 1))
    return found


def word_at(text, at):
    """Return the longest name, number or symbol of any length at a place, "" if there is none."""
    end = at
    if is_letter(text[at]):
        while end < len(text) and (is_letter(text[end]) or is_digit(text[end])):
            end += 1
        return text[at:end]
    if is_digit(text[at]):
        while end < len(text) and is_digit(text[end]):
            end += 1
        return text[at:end]
    for symbol in SYMBOLS:
        if text.startswith(symbol, at):
            return symbol
    return ""


def kind_of(word):
    """Return the kind of the token that a word is, None if it is none."""
    if word == "":
        return None
    if word in WORDS or word in SYMBOLS:
        return word
    if is_letter(word[0]):
        return "name" if len(word) <= LONGEST_NAME else None
    if len(word) > LONGEST_NUMBER or (word[0] == "0" and word != "0"):
        return None
    return "number"


def is_letter(sign):
    """Return whether a character is a lowercase letter."""
    return "a" <= sign <= "z"


def is_digit(sign):
    """Return whether a character is a digit."""
    return "0" <= sign <= "9"
