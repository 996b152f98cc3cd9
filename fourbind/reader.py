"""A program read from its text."""

from fourbind.errors import NoText
from fourbind.words import MODES, SIGNS, is_name, is_number

# What stands behind a row's first word: x a name, a an atom, m a mode. Others hang on how many words there are.
SHAPES = {"let": "xa", "set": "xa", "tell": "a", "give": "a", "if": "a", "while": "a", "times": "mxa"}

SUM_SHAPE = "xasa"

WITH_BLOCKS = ("fn", "if", "while", "times")


class Reading:
    """The rows read so far: the blocks that aren't over, and the statements of which they are."""

    def __init__(self):
        # The innermost stands last; the program's own block is of no statement.
        self.blocks = [[]]
        self.starts = []

    def take(self, words):
        """Takes one more row; False where it can't come here."""
        if words == ["else"]:
            return self.begin_other()
        if words == ["end"]:
            return self.close()
        if not fits(words):
            return False
        statement = started(words)
        if statement[0] in WITH_BLOCKS:
            self.starts.append(statement)
            self.blocks.append([])
        else:
            self.blocks[-1].append(statement)
        return True

    def in_first_arm(self):
        return bool(self.starts) and self.starts[-1][0] == "if" and len(self.starts[-1]) == 2

    def end_block(self):
        """The innermost statement that isn't over, with its block that is over now."""
        start = self.starts.pop()
        block = self.blocks.pop()
        return (*start, tuple(block))

    def begin_other(self):
        if not self.in_first_arm():
            return False
        self.starts.append(self.end_block())
        self.blocks.append([])
        return True

    def close(self):
        if not self.starts or self.in_first_arm():
            return False
        statement = self.end_block()
        self.blocks[-1].append(statement)
        return True


def shape_of(word, many):
    """The shape of the many words behind the row's first word, None where no row begins so."""
    if word == "fn":
        return "x" + "x" * (many - 1)
    if word == "call":
        return "xx" + "a" * (many - 2)
    if word == "let" and many == len(SUM_SHAPE):
        return SUM_SHAPE
    return SHAPES.get(word)


def fits(words):
    """True where the words are the first row of a statement."""
    rest = words[1:]
    shape = shape_of(words[0], len(rest))
    if shape is None or len(shape) != len(rest):
        return False
    return all([is_of(letter, word) for letter, word in zip(shape, rest)])


def is_of(letter, word):
    """True where the word is what this letter of a shape stands for."""
    if letter == "s":
        return word in SIGNS
    if letter == "m":
        return word in MODES
    return is_name(word) or (letter == "a" and is_number(word))


def started(words):
    """The statement of a row that fits, its blocks left out."""
    word = words[0]
    parts = [int(part) if is_number(part) else part for part in words[1:]]
    if word == "let" and len(parts) == len(SUM_SHAPE):
        x, a, s, b = parts
        return ("sum", x, s, a, b)
    if word == "fn":
        return (word, parts[0], tuple(parts[1:]))
    if word == "call":
        return (word, parts[0], parts[1], tuple(parts[2:]))
    return (word, *parts)


def read(text):
    """The program whose text this is, or NoText."""
    rows = text.split("\n") if text else []
    reading = Reading()
    for at, row in enumerate(rows):
        if not reading.take(row.split(" ")):
            raise NoText(at)
    if reading.starts:
        raise NoText(len(rows))
    return tuple(reading.blocks[0])
