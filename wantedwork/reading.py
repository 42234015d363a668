"""Reading numbers, words, keys and expressions; what has not their form raises InvalidText(None)."""

from wantedwork.errors import InvalidText
from wantedwork.expressions import DEEPEST, QUESTIONS
from wantedwork.words import DIGITS, LETTERS, MODULUS, is_made_of, is_word

OPERATIONS_OF_SIGNS = {" + ": "plus", " - ": "minus", " * ": "times", " < ": "less", " == ": "same"}
STRENGTHS = {"less": 1, "same": 1, "plus": 2, "minus": 2, "times": 3}
MOST_PARENTHESES = 20
MOST_DIGITS = 10


def read_number(text):
    """Return the number that a text is."""
    if not 1 <= len(text) <= MOST_DIGITS or not is_made_of(text, DIGITS):
        raise InvalidText(None)
    if text[0] == "0" and len(text) > 1:
        raise InvalidText(None)
    return int(text)


def read_word(text):
    """Return the word that a text is."""
    if not is_word(text):
        raise InvalidText(None)
    return text


def read_words(text):
    """Return the tuple of the words that a text lists, separated by commas."""
    return tuple([read_word(word) for word in text.split(", ")])


def read_key(text):
    """Return the key that a text is, with any number of numbers."""
    plan, _, rest = text.partition("(")
    if not rest.endswith(")"):
        raise InvalidText(None)
    numbers = [] if rest == ")" else rest[:-1].split(",")
    return read_word(plan), tuple([read_number(number) for number in numbers])


KINDS = {"word": read_word, "number": read_number, "key": read_key}


def read_values(words, kinds):
    """Return the tuple of the values that words are, one for each of some kinds."""
    if len(words) != len(kinds):
        raise InvalidText(None)
    values = []
    for word, kind in zip(words, kinds):
        reader = KINDS[kind]
        values.append(reader(word))
    return tuple(values)


def read_expression(text):
    """Return the expression that a text is."""
    reader = Reader(text)
    expression, _ = reader.operations(1)
    if reader.at != len(text):
        raise InvalidText(None)
    return expression


class Reader:
    """Goes over the text of an expression; what it reads it returns with its depth."""

    def __init__(self, text):
        self.text = text
        self.at = 0
        self.around = 0

    def operations(self, least):
        """Read an operand and the operations behind it that are at least so strong."""
        first, depth = self.operand()
        sign = self.sign_here()
        while sign is not None and STRENGTHS[OPERATIONS_OF_SIGNS[sign]] >= least:
            operation = OPERATIONS_OF_SIGNS[sign]
            self.at += len(sign)
            second, second_depth = self.operations(STRENGTHS[operation] + 1)
            first, depth = (operation, first, second), max(depth, second_depth) + 1
            # Deeper ones are not even built: a long text would make them too deep to be handled.
            if depth > DEEPEST:
                raise InvalidText(None)
            sign = self.sign_here()
        return first, depth

    def sign_here(self):
        """Return the sign that stands here, with its spaces, or None."""
        for sign in OPERATIONS_OF_SIGNS:
            if self.text.startswith(sign, self.at):
                return sign
        return None

    def operand(self):
        """Read what is no operation: parentheses, a number, a question or a word."""
        if self.text.startswith("(", self.at):
            return self.parentheses()
        digits = self.taken(DIGITS)
        if digits != "":
            number = read_number(digits)
            if number >= MODULUS:
                raise InvalidText(None)
            return number, 1
        word = read_word(self.taken(LETTERS))
        if word in QUESTIONS and self.is_before_word():
            self.at += 1
            return (word, read_word(self.taken(LETTERS))), 1
        return word, 1

    def parentheses(self):
        """Read an expression in parentheses."""
        if self.around == MOST_PARENTHESES:
            raise InvalidText(None)
        self.around += 1
        self.at += 1
        found = self.operations(1)
        if not self.text.startswith(")", self.at):
            raise InvalidText(None)
        self.at += 1
        self.around -= 1
        return found

    def taken(self, allowed):
        """Read as many of the allowed characters as stand here."""
        start = self.at
        while self.at < len(self.text) and self.text[self.at] in allowed:
            self.at += 1
        return self.text[start:self.at]

    def is_before_word(self):
        """Tell whether a space and a letter follow."""
        ahead = self.text[self.at:self.at + 2]
        return len(ahead) == 2 and ahead[0] == " " and ahead[1] in LETTERS
