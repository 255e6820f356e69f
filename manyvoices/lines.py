"""Lines of texts, and the tokens of which they consist."""

from manyvoices.errors import BadText

LETTERS = "abcdefghijklmnopqrstuvwxyz"
FIGURES = "0123456789"
LONG_SIGNS = (">=", "<=")
SHORT_SIGNS = "()+-<>"


class Line:
    """A line of a text, of which one token after another is taken."""

    def __init__(self, number, tokens):
        self.number = number
        self._tokens = tokens
        self._place = 0

    def ahead(self):
        """Returns the token that comes next, "" behind the last one."""
        return self._tokens[self._place] if self._place < len(self._tokens) else ""

    def skips(self, *tokens):
        """Tells whether one of these tokens comes next, and goes on behind it if so."""
        if self.ahead() not in tokens:
            return False
        self._place += 1
        return True

    def expect(self, token):
        """Goes on behind this token, which must come next."""
        if not self.skips(token):
            raise BadText(self.number)

    def take_word(self):
        """Returns the row of letters that must come next."""
        return self._row_of(LETTERS)

    def take_words(self):
        """Returns the list of one or more rows of letters that must make up the rest of the line."""
        words = [self.take_word()]
        while self.ahead():
            words.append(self.take_word())
        return words

    def take_integer(self):
        """Returns the integer that must come next."""
        return int(self._row_of(FIGURES))

    def has_integer(self):
        """Tells whether an integer comes next."""
        return _begins_with(self.ahead(), FIGURES)

    def has_word(self):
        """Tells whether a row of letters comes next."""
        return _begins_with(self.ahead(), LETTERS)

    def finish(self):
        """Makes sure that no token is left."""
        if self.ahead():
            raise BadText(self.number)

    def _row_of(self, signs):
        token = self.ahead()
        if not _begins_with(token, signs):
            raise BadText(self.number)
        self._place += 1
        return token


class Page:
    """The lines of a text, of which one after another is taken; lines of blanks alone are passed over."""

    def __init__(self, text):
        if not isinstance(text, str):
            raise BadText(0)
        self._lines = text.split("\n")
        self._next = 0
        self._pass_over()

    def is_read(self):
        """Tells whether no line is left."""
        return self._next == len(self._lines)

    def next_line(self):
        """Returns the line that must come next."""
        if self.is_read():
            raise BadText(len(self._lines))
        number = self._next
        tokens = _tokens_of(self._lines[number])
        if tokens is None:
            raise BadText(number)
        self._next += 1
        self._pass_over()
        return Line(number, tokens)

    def _pass_over(self):
        while not self.is_read() and not self._lines[self._next].strip(" "):
            self._next += 1


def _begins_with(token, signs):
    return token != "" and token[0] in signs


def _tokens_of(line):
    """Returns the list of the tokens of a line, or None if it does not consist of tokens."""
    tokens = []
    place = 0
    while place < len(line):
        token = _token_at(line, place)
        if token is None:
            return None
        if token != " ":
            tokens.append(token)
        place += len(token)
    return tokens


def _token_at(line, first):
    """Returns the token, or the blank, that begins at an index, or None."""
    for signs in (LETTERS, FIGURES):
        if line[first] in signs:
            last = first + 1
            while last < len(line) and line[last] in signs:
                last += 1
            return line[first:last]
    if line[first : first + 2] in LONG_SIGNS:
        return line[first : first + 2]
    return line[first] if line[first] in SHORT_SIGNS or line[first] == " " else None
