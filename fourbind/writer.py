"""A program's text, row by row."""


def shown(program):
    """The text of the program."""
    rows = []
    # A pile, not calls within calls: blocks may lie within one another however deep.
    pile = list(program[::-1])
    while pile:
        part = pile.pop()
        if isinstance(part, str):
            rows.append(part)
        else:
            rows.append(first_row(part))
            pile.extend(behind_first(part)[::-1])
    return "\n".join(rows)


def first_row(statement):
    """The row with which the statement begins."""
    return " ".join([str(word) for word in first_words(statement)])


def first_words(statement):
    """The words and numbers of the statement's first row, in order."""
    word = statement[0]
    if word == "sum":
        x, s, a, b = statement[1:]
        return ("let", x, a, s, b)
    if word == "fn":
        return (word, statement[1], *statement[2])
    if word == "call":
        return (word, statement[1], statement[2], *statement[3])
    if word in ("if", "while"):
        return statement[:2]
    if word == "times":
        return statement[:4]
    return statement


def behind_first(statement):
    """What follows the statement's first row: statements still to be shown, and rows as they are."""
    word = statement[0]
    if word == "if":
        return [*statement[2], "else", *statement[3], "end"]
    if word in ("fn", "while", "times"):
        return [*statement[-1], "end"]
    return []
