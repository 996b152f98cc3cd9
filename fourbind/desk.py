"""The desk: programs kept by names, and perhaps a machine, asked by rows of words."""

from fourbind.errors import NoBegun, NoKept, NoRow
from fourbind.looking import look
from fourbind.machine import Machine, machine_run
from fourbind.plans import WAYS, plan_of
from fourbind.reader import read
from fourbind.trees import bodies, makings, statements
from fourbind.words import is_name, is_number
from fourbind.writer import shown

MOST_TURNS = 600

# A line feed of a text, in a row.
BETWEEN = " ; "

# What stands behind a row's first word: n a name, w a way, k a number of turns, m a number. A keep hangs on its text.
SHAPES = {
    "show": "n", "run": "nwk", "cells": "nw", "cost": "nwk", "begin": "nw", "go": "k", "mark": "", "seen": "m",
}


def is_of(letter, word):
    """True where the word is what this letter of a shape stands for."""
    if letter == "n":
        return is_name(word)
    if letter == "w":
        return word in WAYS
    return is_number(word) and (letter == "m" or int(word) <= MOST_TURNS)


def parts_of_keep(rest):
    """The name and the text behind a keep's first blank."""
    name, blank, text = rest.partition(" ")
    if not is_name(name) or blank == "":
        raise NoRow()
    return ["keep", name, text]


def parts_of(row):
    """The parts of a row; NoRow where it is none."""
    first, blank, rest = row.partition(" ")
    if "\n" in row:
        raise NoRow()
    if first == "keep":
        return parts_of_keep(rest)
    words = row.split(" ")
    if first not in SHAPES or len(SHAPES[first]) != len(words) - 1:
        raise NoRow()
    if not all([is_of(letter, word) for letter, word in zip(SHAPES[first], words[1:])]):
        raise NoRow()
    return words


def in_words(things):
    """Texts and numbers, parted by blanks."""
    return " ".join([str(thing) for thing in things])


def value_in_words(worth):
    """A value as told, in words."""
    return in_words(worth) if isinstance(worth, tuple) else str(worth)


def run_in_words(end, told):
    """The end of a run, and the numbers told, if any."""
    text = f"gave {value_in_words(end[1])}" if end[0] == "gave" else in_words(end)
    return in_words([text, "told", *told]) if told else text


class Desk:
    """Keeps programs by names, and the machine that was begun last."""

    def __init__(self):
        self.kept = {}
        self.begun = None
        self.many_makings = 0
        self.entries = []
        self.many_open = 0

    def __len__(self):
        return len(self.kept)

    def say(self, row):
        """The answer to the row, or its refusal."""
        word, *parts = parts_of(row)
        if word == "keep":
            return self.keep(parts[0], parts[1])
        if word in ("go", "mark", "seen"):
            return self.ask_machine(word, parts)
        if parts[0] not in self.kept:
            raise NoKept(parts[0])
        program = self.kept[parts[0]]
        if word == "show":
            return shown(program).replace("\n", BETWEEN)
        return self.ask_way(word, program, parts[1:])

    def say_all(self, rows, *, quiet=False):
        """The answers to the rows, said one behind the other as far as none is refused; none where it is quiet."""
        answers = []
        answered = 0
        self.entries.append(("open", len(rows)))
        self.many_open += 1
        try:
            for row in rows:
                answers.append(self.say(row))
                answered += 1
        finally:
            self.entries.append(("shut", answered))
            self.many_open -= 1
        return [] if quiet else answers

    def log(self):
        """For each time that rows were said at once how many, and how many were answered."""
        return list(self.entries)

    def open_rows(self):
        """How many such times are not over."""
        return self.many_open

    def keep(self, name, text):
        program = read(text.replace(BETWEEN, "\n"))
        look(program)
        self.kept[name] = program
        return f"{len(statements(program))} statements {len(bodies(program))} bodies"

    def ask_way(self, word, program, parts):
        """Answers what is asked of a program by a way, the first of the parts."""
        plan = plan_of(program, parts[0])
        if word == "begin":
            self.begun = Machine(program, plan=plan)
            self.many_makings = len(makings(program))
            return "begun"
        if word == "cells":
            return "none" if plan is None or not plan.cells else in_words(plan.cells)
        end, marks, told, costs = machine_run(program, plan=plan, most=int(parts[1]))
        return run_in_words(end, told) if word == "run" else in_words(costs)

    def ask_machine(self, word, parts):
        """Answers what is asked of the machine."""
        if self.begun is None:
            raise NoBegun()
        if word == "go":
            return str(self.go(int(parts[0])))
        if word == "mark":
            mark = self.begun.mark()
            return "end" if mark is None else in_words(mark)
        m = int(parts[0])
        if m >= self.many_makings:
            raise NoRow()
        worth = self.begun.seen(m)
        return "none" if worth is None else value_in_words(worth)

    def go(self, most):
        """How many turns were done, so many at most."""
        ahead = len(self.begun)
        while len(self.begun) - ahead < most and self.begun.mark() is not None:
            self.begun.turn()
        return len(self.begun) - ahead
