"""Reading the texts of sayings."""

from thinwall.errors import BadSaying
from thinwall.sayings import And, Common, Fact, Knows, Not, Or, Truth, Whether

LONGEST_NAME = 8


class Reader:
    """Reads one text from left to right, and never behind the first wrong character.

    Sayings that were read wait in _made. The symbols in front of them wait in _held
    until it is clear how far they reach: "(", "~", whole brackets, "&", and "|".
    """

    def __init__(self, text):
        self._text = text
        self._at = 0
        self._made = []
        self._held = []

    def result(self):
        """The saying that the whole text describes."""
        self._read_operand()
        while self._next_symbol() != "":
            self._read_behind_operand()
        if "(" in self._held:
            raise BadSaying(self._at)
        self._join_while(("&", "|"))
        return self._made[0]

    def _character(self):
        """The character at the place that is reached, empty behind the end."""
        return self._text[self._at:self._at + 1]

    def _next_symbol(self):
        """The first character of the next symbol; passes the spaces before it."""
        while self._character() == " ":
            self._at += 1
        return self._character()

    def _read_operand(self):
        """Reads all that stands before the end of a name, the name included."""
        symbol = self._next_symbol()
        while symbol in ("(", "~", "["):
            self._held.append(self._bracket() if symbol == "[" else symbol)
            self._at += 1
            symbol = self._next_symbol()
        if not "a" <= symbol <= "z":
            raise BadSaying(self._at)
        self._made.append(_saying_of_word(self._word()))
        self._apply_prefixes()

    def _read_behind_operand(self):
        symbol = self._next_symbol()
        if symbol == ")" and "(" in self._held:
            self._close()
        elif symbol == "&":
            self._join_while(("&",))
            self._go_on(symbol)
        elif symbol == "|":
            self._join_while(("&", "|"))
            self._go_on(symbol)
        else:
            raise BadSaying(self._at)

    def _go_on(self, symbol):
        self._held.append(symbol)
        self._at += 1
        self._read_operand()

    def _close(self):
        self._join_while(("&", "|"))
        self._held.pop()
        self._at += 1
        self._apply_prefixes()

    def _word(self):
        start = self._at
        while "a" <= self._character() <= "z":
            if self._at - start == LONGEST_NAME:
                raise BadSaying(self._at)
            self._at += 1
        return self._text[start:self._at]

    def _bracket(self):
        """The bracket that begins here; stops at its last character."""
        start = self._at
        self._at += 1
        # "[" is before all letters, so any letter may follow it.
        while self._text[self._at - 1] < self._character() and "a" <= self._character() <= "h":
            self._at += 1
        if self._at == start + 1:
            raise BadSaying(self._at)
        if self._character() in ("?", "*"):
            self._at += 1
        if self._character() != "]":
            raise BadSaying(self._at)
        return self._text[start:self._at + 1]

    def _apply_prefixes(self):
        """Puts "~" and the brackets around the saying that was read last."""
        while self._held and self._held[-1] not in ("(", "&", "|"):
            self._made.append(_prefixed(self._held.pop(), self._made.pop()))

    def _join_while(self, symbols):
        """Joins the last two sayings as long as one of the symbols stands between them."""
        while self._held and self._held[-1] in symbols:
            second = self._made.pop()
            first = self._made.pop()
            self._made.append(_joined(self._held.pop(), first, second))


def read_saying(text):
    """The saying that the text describes."""
    return Reader(text).result()


def to_saying(saying):
    """The saying itself, or the one that a text describes."""
    if isinstance(saying, str):
        return read_saying(saying)
    return saying


def _saying_of_word(word):
    if word in ("true", "false"):
        return Truth(word == "true")
    return Fact(word)


def _prefixed(prefix, inner):
    """The saying behind "~" or a whole bracket, together with this prefix."""
    if prefix == "~":
        return Not(inner)
    if prefix.endswith("?]"):
        return Whether(prefix[1:-2], inner)
    if prefix.endswith("*]"):
        return Common(prefix[1:-2], inner)
    return Knows(prefix[1:-1], inner)


def _joined(symbol, first, second):
    if symbol == "&":
        return And(first, second)
    return Or(first, second)
