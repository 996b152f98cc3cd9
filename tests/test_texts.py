"""A program's text, row by row, and back (point 6)."""

import copy
import random
import re
import unittest

from fourbind.errors import NoText
from fourbind.reader import read
from fourbind.writer import shown
from samples import sample_programs, sound_programs

TELL = ("tell", 1)

# Each form with its text.
FORMS = (
    (("let", "x", 5), "let x 5"),
    (("let", "x", "y"), "let x y"),
    (("let", "x", 0), "let x 0"),
    (("let", "abcdef", 999999999), "let abcdef 999999999"),
    (("let", "sum", "body"), "let sum body"),
    (("sum", "x", "+", "a", "b"), "let x a + b"),
    (("sum", "x", "-", 1, "b"), "let x 1 - b"),
    (("sum", "x", "*", "a", 2), "let x a * 2"),
    (("sum", "x", "<", 10, 20), "let x 10 < 20"),
    (("sum", "x", "=", "x", "x"), "let x x = x"),
    (("fn", "f", (), ()), "fn f\nend"),
    (("fn", "f", ("p",), (TELL,)), "fn f p\ntell 1\nend"),
    (("fn", "f", ("p", "p", "f"), (TELL, TELL)), "fn f p p f\ntell 1\ntell 1\nend"),
    (("call", "x", "f", ()), "call x f"),
    (("call", "x", "f", (1,)), "call x f 1"),
    (("call", "x", "f", ("a", 0, "x", "f", 12)), "call x f a 0 x f 12"),
    (("set", "x", 7), "set x 7"),
    (("set", "x", "x"), "set x x"),
    (("tell", 3), "tell 3"),
    (("tell", "x"), "tell x"),
    (("give", 0), "give 0"),
    (("give", "x"), "give x"),
    (("if", "a", (), ()), "if a\nelse\nend"),
    (("if", 1, (TELL,), ()), "if 1\ntell 1\nelse\nend"),
    (("if", 0, (), (TELL,)), "if 0\nelse\ntell 1\nend"),
    (("if", "a", (("give", 1), TELL), (("give", 2),)), "if a\ngive 1\ntell 1\nelse\ngive 2\nend"),
    (("while", "a", ()), "while a\nend"),
    (("while", 10, (TELL,)), "while 10\ntell 1\nend"),
    (("times", "own", "i", 3, ()), "times own i 3\nend"),
    (("times", "one", "i", "n", (TELL,)), "times one i n\ntell 1\nend"),
)

PATTERNS = {
    "let": "let N A( [-+*<=] A)?", "fn": "fn N( N)*", "call": "call N N( A)*", "set": "set N A", "tell": "tell A",
    "give": "give A", "if": "if A", "while": "while A", "times": "times (own|one) N A", "else": "else", "end": "end",
}

WORD = r"(?!(let|fn|call|set|tell|if|else|while|times|own|one|give|end)( |\Z))[a-z]{1,6}"


def refused_at(text):
    """The row of NoText by patterns and a pile of what is open, None where the text is a program's."""
    if text == "":
        return None
    pile = []
    rows = text.split("\n")
    for at, row in enumerate(rows):
        pattern = PATTERNS.get(row.split(" ")[0], "!")
        pattern = pattern.replace("N", WORD).replace("A", f"({WORD}|0|[1-9][0-9]{{0,8}})")
        if re.fullmatch(pattern, row, re.ASCII) is None:
            return at
        word = row.split(" ")[0]
        if word == "else":
            if not pile or pile.pop() != "if":
                return at
            pile.append("else")
        elif word == "end":
            if not pile or pile.pop() == "if":
                return at
        elif word in ("fn", "if", "while", "times"):
            pile.append(word)
    return len(rows) if pile else None


class Texts(unittest.TestCase):
    def there_and_back(self, program, text):
        self.assertEqual(shown(program), text)
        told = read(text)
        self.assertEqual(told, program)
        self.assertEqual(shown(told), text)

    def refused(self, text, row):
        with self.assertRaises(NoText) as caught:
            read(text)
        self.assertIs(caught.exception.__class__, NoText)
        self.assertIs(caught.exception.row.__class__, int)
        self.assertEqual(caught.exception.row, row, repr(text))
        self.assertEqual(refused_at(text), row)


def kinds_of(thing):
    """The classes of all that a program is made of, itself too."""
    if not isinstance(thing, tuple):
        return {thing.__class__}
    return {tuple}.union(*[kinds_of(part) for part in thing])


class ThereAndBack(Texts):
    def test_no_statements(self):
        self.there_and_back((), "")

    def test_each_form_alone(self):
        for statement, text in FORMS:
            self.there_and_back((statement,), text)

    def test_each_form_behind_each(self):
        for first, ahead in FORMS:
            for second, behind in FORMS:
                self.there_and_back((first, second), ahead + "\n" + behind)

    def test_each_form_in_each_block(self):
        for inner, text in FORMS:
            self.there_and_back((("fn", "f", ("p",), (inner, TELL)),), f"fn f p\n{text}\ntell 1\nend")
            self.there_and_back((("while", 1, (inner,)), TELL), f"while 1\n{text}\nend\ntell 1")
            self.there_and_back((("times", "own", "x", 1, (inner,)),), f"times own x 1\n{text}\nend")
            self.there_and_back((("times", "one", "x", 1, (inner,)),), f"times one x 1\n{text}\nend")
            self.there_and_back((("if", 1, (inner,), (inner,)),), f"if 1\n{text}\nelse\n{text}\nend")

    def test_many_params_and_args(self):
        for many in (4, 5, 26, 300):
            names, numbers = ("p",) * many, tuple(range(many))
            self.there_and_back((("fn", "f", names, ()),), "fn f" + " p" * many + "\nend")
            row = "call x f " + " ".join(str(number) for number in numbers)
            self.there_and_back((("call", "x", "f", numbers),), row)

    def test_deep(self):
        starts = {
            "fn f p": lambda block: ("fn", "f", ("p",), block),
            "while 0": lambda block: ("while", 0, block),
            "times own i 2": lambda block: ("times", "own", "i", 2, block),
            "times one i 2": lambda block: ("times", "one", "i", 2, block),
            "if a": lambda block: ("if", "a", block, ()),
            "if b\nelse": lambda block: ("if", "b", (), block),
        }
        for deep in (1, 2, 8, 9, 240, 450):
            for start, wrap in starts.items():
                block = ()
                for _ in range(deep):
                    block = (wrap(block),)
                end = "\nelse\nend" if start == "if a" else "\nend"
                text = "\n".join([start] * deep) + end * deep
                self.assertEqual(shown(block), text)
                self.assertEqual(shown(read(text)), text)
                if deep <= 240:
                    self.there_and_back(block, text)

    def test_deep_mixed(self):
        block = (TELL,)
        for at in range(240):
            wraps = (
                ("fn", "f", (), block), ("if", 1, (TELL,), block), ("if", 1, block, (TELL,)),
                ("while", 1, block), ("times", "one", "i", 1, block), ("times", "own", "i", 1, block),
            )
            block = (TELL, wraps[at % 6], TELL)
        self.there_and_back(block, shown(block))

    def test_sixty_statements_and_more(self):
        for many in (60, 61, 500):
            program = tuple(("let", "x", number) for number in range(many))
            self.there_and_back(program, "\n".join(f"let x {number}" for number in range(many)))

    def test_many_programs_let_by_or_not(self):
        for program in sample_programs(300) + sound_programs(200):
            text = shown(program)
            self.assertIsNone(refused_at(text))
            self.there_and_back(program, text)
            self.assertEqual(text.count("\n") + 1 if text else 0, len(text.split("\n")) if program else 0)

    def test_of_tuples_texts_and_whole_numbers(self):
        for statement, text in FORMS:
            self.assertLessEqual(kinds_of(read(text)), {tuple, str, int})
        for program in sample_programs(100):
            self.assertLessEqual(kinds_of(read(shown(program))), {tuple, str, int})
        self.assertIs(read("").__class__, tuple)
        self.assertIs(read("fn f\nend")[0][2].__class__, tuple)
        self.assertIs(read("call x f")[0][3].__class__, tuple)

    def test_told_again_and_nothing_changed(self):
        for program in sample_programs(40):
            kept = copy.deepcopy(program)
            text = shown(program)
            read("let x 1"), shown((TELL,))
            self.assertEqual(shown(program), text)
            self.assertEqual(read(text), read(text))
            self.assertEqual(program, kept)


class NoTexts(Texts):
    def test_line_feeds(self):
        self.refused("\n", 0)
        self.refused("\n\n", 0)
        self.refused("\ntell 1", 0)
        self.refused("tell 1\n", 1)
        self.refused("tell 1\n\ntell 2", 1)
        self.refused("tell 1\ntell 2\n", 2)
        self.refused("fn f\n\nend", 1)
        self.refused("fn f\nend\n", 2)

    def test_blanks(self):
        self.refused(" ", 0)
        self.refused("  ", 0)
        for statement, text in FORMS:
            first, *rest = text.split("\n")
            behind = "".join("\n" + row for row in rest)
            self.refused(" " + first + behind, 0)
            self.refused(first + " " + behind, 0)
            for at in range(len(first)):
                if first[at] == " ":
                    self.refused(first[:at] + " " + first[at:] + behind, 0)
            self.refused("tell 1\n" + text + " ", 1 + len(rest))
        self.refused("if a\n else\nend", 1)
        self.refused("if a\nelse \nend", 1)
        self.refused("if a\nelse\n end", 2)
        self.refused("if a\nelse\nend ", 2)

    def test_words_too_few(self):
        for row in (
            "let", "let x", "let x a +", "let x + b", "fn", "call", "call x", "set", "set x", "tell", "give", "if",
            "while", "times", "times own", "times own x", "times x a", "times own a",
        ):
            self.refused(row, 0)
            self.refused("while 1\n" + row + "\nend", 1)

    def test_words_too_many(self):
        for row in (
            "let x a b", "let x a + b c", "let x 1 + 2 3", "set x a b", "tell a b", "give 1 2", "if a b", "while 1 a",
            "times own x a b", "else a", "end a", "end end", "else else", "let x a + b + c",
        ):
            self.refused(row, 0)
        self.refused("if a\nelse 1\nend", 1)
        self.refused("if a\nelse\nend if", 2)

    def test_other_words(self):
        for row in (
            "sum x + a b", "lets x 1", "Let x 1", "x", "1", "x 1", "let 1 2", "let let 1", "let x let", "let x own",
            "let x a / b", "let x a + +", "let x + a b", "let x a +- b", "let x a b c", "let x a  b", "let x a * end",
            "let x a <= b", "let x a x b", "fn 1", "fn fn", "fn f 1", "fn f p end", "fn f p 2", "fn f +", "call 1 f",
            "call x 1", "call x 1 2", "call x f +", "call x f else", "call one f", "call x end 1", "set 1 2",
            "set x +", "set end 1", "tell +", "tell tell", "give give", "give -", "if if", "if +", "while while",
            "while *", "times two x 3", "times x own 3", "times own 1 3", "times own own 3", "times own x one",
            "times Own x 3", "times own x +", "times ownone x 3", "own", "one", "+", "own x 1", "tellx", "tell\tx",
        ):
            self.refused(row, 0)
            self.refused("tell 1\nfn f\n" + row + "\nend", 2)

    def test_numbers(self):
        for figures in (
            "00", "01", "007", "000000000", "1234567890", "0123456789", "1000000000", "0000000000", "-1", "+1", "1.0",
            "1_000", "1e3", "0x1", "1a", "a1", "--1", "1,0", "-0",
        ):
            for row in ("let x N", "let x N + 1", "let x 1 + N", "call x f N", "call x f 1 N", "set x N", "tell N",
                        "give N", "if N", "while N", "times own x N"):
                self.refused(row.replace("N", figures), 0)

    def test_figures_beyond_ours(self):
        for figures in ("\u0663", "\u00b2", "\uff11", "1\u0663"):
            self.refused("tell " + figures, 0)

    def test_names(self):
        wrong = (
            "abcdefg", "abcdefgh", "A", "aB", "a1", "a_b", "a-b", "a.b", "x'", "let", "fn", "call", "set", "tell",
            "if", "else", "while", "times", "own", "one", "give", "end", "~", "!", "\u00e4",
        )
        for name in wrong:
            for row in (
                "let N 1", "let x N", "let N a + b", "let x N + b", "let x a + N", "fn N", "fn f N", "fn f p N",
                "call N f", "call x N", "call x f N", "call x f 1 N", "set N 1", "set x N", "tell N", "give N", "if N",
                "while N", "times own N 1", "times one x N",
            ):
                self.refused(row.replace("N", name), 0)
        for name in ("abcdef", "sum", "ends", "lets", "ones", "in", "do"):
            for row in ("let N 1", "let x N", "call x f N", "set x N", "tell N"):
                self.assertEqual(shown(read(row.replace("N", name))), row.replace("N", name))

    def test_else(self):
        self.refused("else", 0)
        self.refused("tell 1\nelse", 1)
        self.refused("fn f\nelse\nend", 1)
        self.refused("while 1\nelse\nend", 1)
        self.refused("times own x 1\nelse\nend", 1)
        self.refused("if a\nelse\nelse\nend", 2)
        self.refused("if a\nelse\ntell 1\nelse\nend", 3)
        self.refused("if a\nelse\nend\nelse\nend", 3)
        self.refused("if a\nwhile 1\nelse\nend\nelse\nend", 2)
        self.refused("if a\nelse\nwhile 1\nelse\nend\nend", 3)

    def test_else_that_lacks(self):
        self.refused("if a\nend", 1)
        self.refused("if a\ntell 1\nend", 2)
        self.refused("if a\nif b\nelse\nend\nend", 4)
        self.refused("if a\nif b\nend\nelse\nend", 2)
        self.refused("if a", 1)
        self.refused("if a\ntell 1", 2)

    def test_end_too_many(self):
        self.refused("end", 0)
        self.refused("end\nend", 0)
        self.refused("tell 1\nend", 1)
        self.refused("fn f\nend\nend", 2)
        self.refused("if a\nelse\nend\nend", 3)
        self.refused("times own x 1\nend\ntell 1\nend", 3)

    def test_end_that_lacks(self):
        self.refused("fn f", 1)
        self.refused("while 1", 1)
        self.refused("times one x 1\ntell 1", 2)
        self.refused("if a\nelse", 2)
        self.refused("if a\nelse\ntell 1", 3)
        self.refused("fn f\nwhile 1\nend", 3)
        self.refused("fn f\n" * 240 + "end\n" * 238 + "end", 479)

    def test_the_first_of_two_is_told(self):
        self.refused("tell 1\nend\nnonsense", 1)
        self.refused("tell 1\nnonsense\nend", 1)
        self.refused("fn f\ntell\ntell 01", 1)
        self.refused("if a\nend\nelse", 1)
        self.refused("let x 01\n", 0)
        self.refused("while 1\nlet abcdefg 1", 1)

    def test_deep_and_wrong(self):
        self.refused("while 1\n" * 240 + "else\n" + "end\n" * 239 + "end", 240)
        self.refused("if 1\n" * 240 + "end", 240)

    def test_asked_again(self):
        for _ in range(2):
            self.refused("fn f\nelse", 1)
            self.there_and_back((TELL,), "tell 1")


class Spoiled(Texts):
    SIGNS = " \n\n" + "abeflnost019+-*<=A~"

    def spoil(self, chance, text):
        """The text with a sign, a word or a row put in, taken out or changed."""
        rows = text.split("\n")
        at = chance.randrange(len(rows))
        way = chance.randrange(5)
        if way == 0:
            del rows[at]
        elif way == 1:
            rows.insert(at, chance.choice(rows + ["else", "end", "if 1", ""]))
        elif way == 2:
            words = rows[at].split(" ")
            words[chance.randrange(len(words))] = chance.choice(["let", "x", "0", "end", "", "own", "+", "12"])
            rows[at] = " ".join(words)
        else:
            place = chance.randrange(len(text) + 1)
            keep = place + chance.randrange(2)
            return text[:place] + chance.choice(self.SIGNS) + text[keep:]
        return "\n".join(rows)

    def test_many(self):
        chance = random.Random(6)
        wrong = 0
        for program in sample_programs(300):
            for _ in range(5):
                text = self.spoil(chance, shown(program))
                row = refused_at(text)
                if row is None:
                    self.assertEqual(shown(read(text)), text)
                else:
                    wrong += 1
                    self.refused(text, row)
        self.assertGreater(wrong, 500)


if __name__ == "__main__":
    unittest.main()
