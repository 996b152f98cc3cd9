"""Names, and what numbers come to."""

WIDE = 10 ** 9

LONGEST = 6

WORDS = (
    "let", "fn", "call", "set", "tell", "if", "else", "while", "times", "own", "one", "give", "end",
)


def is_name(text):
    """True where the text is one to six small letters and none of the words of a program's text."""
    if not 1 <= len(text) <= LONGEST:
        return False
    if text in WORDS:
        return False
    # Not islower or isalpha: these take letters beyond a to z, too.
    return all(["a" <= sign <= "z" for sign in text])


def come_to(s, a, b):
    """The number that a and b come to by the sign s."""
    if s == "+":
        return (a + b) % WIDE
    if s == "-":
        return (a - b) % WIDE
    if s == "*":
        return (a * b) % WIDE
    if s == "<":
        return 1 if a < b else 0
    return 1 if a == b else 0
