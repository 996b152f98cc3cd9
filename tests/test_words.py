"""Names (point 4) and what numbers come to (point 11)."""

import unittest

from fourbind.words import WIDE, come_to, is_name

WORDS = "let fn call set tell if else while times own one give end".split()
LETTERS = "abcdefghijklmnopqrstuvwxyz"


class IsName(unittest.TestCase):
    def names(self, *texts):
        for text in texts:
            self.assertIs(is_name(text), True, repr(text))

    def no_names(self, *texts):
        for text in texts:
            self.assertIs(is_name(text), False, repr(text))

    def test_lengths(self):
        self.no_names("")
        self.names("x", "ab", "abc", "abcd", "abcde", "abcdef")
        self.no_names("abcdefg", "a" * 4000)

    def test_every_letter(self):
        self.names(*LETTERS)
        self.names(*[letter * 6 for letter in LETTERS])

    def test_words(self):
        self.assertEqual(len(WORDS), 13)
        self.no_names(*WORDS)

    def test_near_words(self):
        self.names(*[word + "s" for word in WORDS if len(word) < 6])
        self.names(*[word[:-1] for word in WORDS])

    def test_words_of_no_text(self):
        self.names("sum", "back", "in", "do", "step", "body", "room", "none", "other", "head", "keep", "run")

    def test_one_wrong_sign_at_each_place(self):
        signs = "A Z 0 9 _ - + * < = ; . , ` { ~ ! @ [ \\ \n \t \r".split(" ") + [" "]
        for sign in signs:
            self.no_names(sign)
            for at in range(6):
                self.no_names("abcde"[:at] + sign + "abcde"[at:])

    def test_whole_numbers_are_none(self):
        self.no_names("0", "1", "12", "999999")

    def test_blank_and_line_feed_beside(self):
        self.no_names(" ", "x ", " x", "x\n", "\nx", "abcde\n", "abcdef\n", "\n", "let ", "a b")

    def test_words_in_great_letters(self):
        self.no_names("LET", "Let", "X", "aX", "Xa")

    def test_letters_of_other_alphabets(self):
        self.no_names("\u00e4", "\u00df", "\u00aa", "\u03b1", "a\u0301", "\u0131", "\uff41", "\U0001d41a")

    def test_asked_again(self):
        for text in ("x", "let", "", "sum"):
            self.assertIs(is_name(text), is_name(text))


class ComeTo(unittest.TestCase):
    def comes_to(self, s, a, b, number):
        told = come_to(s, a, b)
        # A truth is no whole number (point 2), though Python takes True for 1.
        self.assertIs(told.__class__, int)
        self.assertEqual(told, number, (s, a, b))

    def test_wide(self):
        self.assertEqual(WIDE, 1000000000)
        self.assertIs(WIDE.__class__, int)

    def test_plus(self):
        self.comes_to("+", 0, 0, 0)
        self.comes_to("+", 0, 1, 1)
        self.comes_to("+", 1, 0, 1)
        self.comes_to("+", 20, 3, 23)
        self.comes_to("+", WIDE - 1, 0, WIDE - 1)
        self.comes_to("+", WIDE - 1, 1, 0)
        self.comes_to("+", 1, WIDE - 1, 0)
        self.comes_to("+", WIDE - 1, WIDE - 1, WIDE - 2)

    def test_minus(self):
        self.comes_to("-", 0, 0, 0)
        self.comes_to("-", 20, 3, 17)
        self.comes_to("-", 3, 20, WIDE - 17)
        self.comes_to("-", 0, 1, WIDE - 1)
        self.comes_to("-", 1, 0, 1)
        self.comes_to("-", 0, WIDE - 1, 1)
        self.comes_to("-", 1, WIDE - 1, 2)
        self.comes_to("-", WIDE - 1, 0, WIDE - 1)
        self.comes_to("-", WIDE - 1, WIDE - 1, 0)

    def test_times(self):
        self.comes_to("*", 0, 0, 0)
        self.comes_to("*", 0, 1, 0)
        self.comes_to("*", 1, 0, 0)
        self.comes_to("*", 20, 3, 60)
        self.comes_to("*", 3, 20, 60)
        self.comes_to("*", 1, WIDE - 1, WIDE - 1)
        self.comes_to("*", WIDE - 1, 0, 0)
        self.comes_to("*", 2, WIDE - 1, WIDE - 2)
        self.comes_to("*", WIDE - 1, WIDE - 1, 1)
        self.comes_to("*", 100000, 10000, 0)
        self.comes_to("*", 123456789, 987654321, 112635269)

    def test_less(self):
        self.comes_to("<", 0, 0, 0)
        self.comes_to("<", 0, 1, 1)
        self.comes_to("<", 1, 0, 0)
        self.comes_to("<", 9, 10, 1)
        self.comes_to("<", 10, 9, 0)
        self.comes_to("<", 7, 7, 0)
        self.comes_to("<", 0, WIDE - 1, 1)
        self.comes_to("<", WIDE - 1, 0, 0)
        self.comes_to("<", WIDE - 2, WIDE - 1, 1)
        self.comes_to("<", WIDE - 1, WIDE - 1, 0)

    def test_alike(self):
        self.comes_to("=", 0, 0, 1)
        self.comes_to("=", 0, 1, 0)
        self.comes_to("=", 1, 0, 0)
        self.comes_to("=", 7, 7, 1)
        self.comes_to("=", 0, WIDE - 1, 0)
        self.comes_to("=", WIDE - 1, 0, 0)
        self.comes_to("=", WIDE - 1, int("999999999"), 1)

    def test_all_pairs_against_the_words(self):
        numbers = (0, 1, 2, 7, 31623, 500000000, WIDE - 2, WIDE - 1)
        for a in numbers:
            for b in numbers:
                self.comes_to("+", a, b, divmod(a + b, WIDE)[1])
                self.comes_to("-", a, b, a - b if a >= b else WIDE + a - b)
                self.comes_to("*", a, b, a * b - a * b // WIDE * WIDE)
                self.comes_to("<", a, b, [0, 1][a < b])
                self.comes_to("=", a, b, [0, 1][a == b])


if __name__ == "__main__":
    unittest.main()
