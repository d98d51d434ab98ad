"""The tokens of scripts."""

from framejoins.checks import LETTERS, NAME_LIMIT
from framejoins.errors import ScriptError

DIGITS = "0123456789"
DIGITS_LIMIT = 30
SYMBOLS = "+-*/()[],:=;\n"
SEPARATORS = (";", "\n")
OPENING = ("(", "[")
CLOSING = (")", "]")
OPEN_LIMIT = 20
STATEMENT_LIMIT = 200
RESERVED = ("return", "silence", "samples", "gain", "insert", "replace", "cut")


def tokens_of(text):
    """Return the tokens of a text as tuples of a word and its line."""
    tokens = []
    line, place = 1, 0
    while place < len(text):
        if text[place] == " ":
            place += 1
        elif text[place] == "#":
            place = comment_end(text, place)
        else:
            word = word_at(text, place)
            if word == "":
                raise ScriptError(line)
            tokens.append((word, line))
            place += len(word)
            # A line feed belongs to the line that it ends.
            if word == "\n":
                line += 1
    return tokens


def comment_end(text, place):
    """Return the place of the line feed behind a comment, or the end of the text."""
    end = text.find("\n", place)
    return len(text) if end < 0 else end


def word_at(text, place):
    """Return the longest token at a place, or an empty string."""
    for signs, limit in ((LETTERS, NAME_LIMIT), (DIGITS, DIGITS_LIMIT), (SYMBOLS, 1)):
        end = place
        while end < len(text) and end - place < limit and text[end] in signs:
            end += 1
        if end > place:
            return text[place:end]
    return ""


class Reader:
    """The tokens of a script, which are taken one after the other."""

    def __init__(self, text):
        self.tokens = tokens_of(text)
        self.last_line = text.count("\n") + 1
        self.at = 0
        self.depth = 0
        self.taken = 0

    def word(self):
        """Return the next token, or an empty string at the end."""
        return self.tokens[self.at][0] if self.at < len(self.tokens) else ""

    def line_here(self):
        """Return the line of the next token, or the last line at the end."""
        return self.tokens[self.at][1] if self.at < len(self.tokens) else self.last_line

    def refuse(self):
        """Raise ScriptError for the next token."""
        raise ScriptError(self.line_here())

    def take(self):
        """Return the next token of a statement and go on behind it."""
        word = self.word()
        if word in OPENING:
            self.depth += 1
        elif word in CLOSING:
            self.depth -= 1
        self.taken += 1
        if self.depth > OPEN_LIMIT or self.taken > STATEMENT_LIMIT:
            self.refuse()
        self.at += 1
        return word

    def take_word(self, word):
        """Take a token that must be this one."""
        if self.word() != word:
            self.refuse()
        self.take()

    def take_name(self):
        """Take a name and return it."""
        word = self.word()
        if word.strip(LETTERS) != "" or word == "" or word in RESERVED:
            self.refuse()
        return self.take()

    def take_number(self):
        """Take an integer and return it."""
        word = self.word()
        if word.strip(DIGITS) != "" or word == "":
            self.refuse()
        return int(self.take())

    def take_signed_number(self):
        """Take an integer, perhaps with a sign, and return it."""
        if self.word() != "-":
            return self.take_number()
        self.take()
        return -self.take_number()

    def pass_separators(self):
        """Go on to the beginning of the next statement."""
        while self.word() in SEPARATORS:
            self.at += 1
        self.taken = 0

    def end_statement(self):
        """Go on behind a statement, which ends with a separator or the text."""
        if self.word() != "" and self.word() not in SEPARATORS:
            self.refuse()
        self.pass_separators()
