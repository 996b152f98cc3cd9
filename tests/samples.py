"""Programs for the tests: made by chance from a fixed seed, of the forms, let by or not."""

import random

NAMES = ("a", "b", "f", "g", "sum", "abcdef")
SIGNS = ("+", "-", "*", "<", "=")
PLAIN = ("let", "sum", "call", "set", "tell", "give")
BLOCKED = ("fn", "if", "while", "times")


class Maker:
    """Makes one program with at most so many statements and blocks within one another."""

    def __init__(self, seed, many, deep):
        self.chance = random.Random(seed)
        self.left = many
        self.deep = deep

    def name(self):
        return self.chance.choice(NAMES)

    def atom(self):
        return self.chance.choice((self.name(), 0, 1, self.chance.randrange(10 ** 9)))

    def names(self, most):
        return tuple(self.name() for _ in range(self.chance.randint(0, most)))

    def atoms(self, most):
        return tuple(self.atom() for _ in range(self.chance.randint(0, most)))

    def block(self, depth):
        made = []
        for _ in range(self.chance.randint(0, 6)):
            if self.left:
                self.left -= 1
                made.append(self.statement(depth))
        return tuple(made)

    def program(self):
        made = []
        while self.left:
            made.extend(self.block(0))
        return tuple(made)

    def statement(self, depth):
        words = PLAIN + BLOCKED * 2 if depth < self.deep else PLAIN
        word = self.chance.choice(words)
        if word == "let" or word == "set":
            return (word, self.name(), self.atom())
        if word == "sum":
            return (word, self.name(), self.chance.choice(SIGNS), self.atom(), self.atom())
        if word == "call":
            return (word, self.name(), self.name(), self.atoms(5))
        if word == "tell" or word == "give":
            return (word, self.atom())
        if word == "fn":
            return (word, self.name(), self.names(4), self.block(depth + 1))
        if word == "if":
            return (word, self.atom(), self.block(depth + 1), self.block(depth + 1))
        if word == "while":
            return (word, self.atom(), self.block(depth + 1))
        mode = self.chance.choice(("own", "one"))
        return (word, mode, self.name(), self.atom(), self.block(depth + 1))


def sample_programs(many):
    """So many programs, small and large ones, up to the bounds of point 2."""
    return [Maker(seed, seed % 61, seed % 9).program() for seed in range(many)]
