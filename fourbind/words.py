"""Names, numbers by figures, and what numbers come to."""

WIDE = 10 ** 9

LONGEST = 6

MOST_FIGURES = 9

SIGNS = ("+", "-", "*", "<", "=")

MODES = ("own", "one")

WORDS = (
    "let", "fn", "call", "set", "tell", "if", "else", "while", "times", "own", "one", "give", "end",
)


def is_name(text):
    """True where the text is one to six small letters and none of the words of a program's text."""
    if not 1 <= len(text) <= LONGEST:
        return False
    if text in WORDS:
        return False
    # Not islower or isalpha: these take letters beyond a to z, too.
    return all(["a" <= sign <= "z" for sign in text])


def is_number(text):
    """True where the text is a number by figures: one to nine, no 0 ahead but in "0"."""
    if not 1 <= len(text) <= MOST_FIGURES:
        return False
    if text[0] == "0" and text != "0":
        return False
    # Not isdigit: it takes figures beyond 0 to 9, too.
    return all(["0" <= sign <= "9" for sign in text])


def come_to(s, a, b):
    """The number that a and b come to by the sign s."""
    if s == "+":
        return (a + b) % WIDE
    if s == "-":
        return (a - b) % WIDE
    if s == "*":
        return (a * b) % WIDE
    if s == "<":
        return 1 if a < b else 0
    return 1 if a == b else 0
