"""What is in sight, what uses mean, what is refused (points 7, 8, 9)."""

import copy
import unittest

from fourbind.errors import NoProgram
from fourbind.looking import look, meant
from samples import rows, sample_programs, sound_programs
from spelled import Spelled


class Looking(unittest.TestCase):
    def let_by(self, program, means):
        self.assertIs(look(program), True)
        told = meant(program)
        self.assertEqual(told, means)
        self.assertIs(told.__class__, list)
        for row in told:
            self.assertIs(row.__class__, tuple)

    def refused(self, program, word, at, name):
        with self.assertRaises(NoProgram) as caught:
            look(program)
        error = caught.exception
        self.assertIs(error.__class__, NoProgram)
        self.assertEqual((error.word, error.at, error.name), (word, at, name))


class LetBy(Looking):
    def test_no_statements(self):
        self.let_by((), [])

    def test_every_form(self):
        program = rows(
            "let a 1", "let b a", "let c a + b", "let d 1 * c", "fn f p q", "give q", "end", "call e f a 5 b c",
            "set a b", "set b 7", "tell a", "give b", "if a", "else", "end", "while b", "end", "times own i c", "end",
            "times one i d", "end",
        )
        self.let_by(program, [
            (), (0,), (0, 1), (2,), (), (6,), (4, 0, 1, 2), (0, 1), (1,), (0,), (1,), (0,), (1,), (2,), (3,),
        ])

    def test_numbers_count_nothing(self):
        program = rows("let a 1", "fn f p q", "end", "call x f 1 a 2 a 3", "let y 4 + a", "tell 9")
        self.let_by(program, [(), (), (1, 0, 0), (0,), ()])

    def test_order_of_uses(self):
        program = rows("let a 1", "let b 2", "fn f p q r", "end", "call c f b a f", "set b a", "let d b - a")
        self.let_by(program, [(), (), (), (2, 1, 0, 2), (1, 0), (1, 0)])

    def test_made_again_within(self):
        program = rows(
            "let x 1", "if x", "tell x", "let x x", "tell x", "else", "tell x", "let x 3", "end", "tell x",
            "while x", "let x x + x", "set x x", "end", "set x 0",
        )
        self.let_by(program, [(), (0,), (0,), (0,), (1,), (0,), (), (0,), (0,), (0, 0), (3, 3), (0,)])

    def test_made_again_in_a_body(self):
        program = rows("let x 1", "fn f x", "tell x", "end", "fn g", "tell x", "let x 2", "tell x", "end", "tell x")
        self.let_by(program, [(), (), (2,), (), (0,), (), (4,), (0,)])

    def test_own_x_made_again_in_own_statement(self):
        program = rows("let x 1", "if 1", "let x x", "call x x x", "else", "call x x x", "end")
        self.refused(program, "twice", 3, "x")
        self.let_by(
            rows("let x 1", "if 1", "let x x", "else", "call x x x", "tell x", "end"),
            [(), (), (0,), (0, 0), (2,)],
        )

    def test_fn_within_its_own_body(self):
        program = rows("fn f", "call x f", "fn g", "call y f", "call z g", "end", "end", "call x f")
        self.let_by(program, [(), (0,), (), (0,), (2,), (0,)])

    def test_param_called_as_its_fn(self):
        self.let_by(rows("fn f f", "tell f", "end", "call x f 1"), [(), (1,), (0,)])
        self.let_by(rows("fn f", "let f f", "tell f", "end", "tell f"), [(), (0,), (1,), (0,)])

    def test_x_of_a_times_in_its_block(self):
        for mode in ("own", "one"):
            program = rows("let i 4", f"times {mode} i i", "tell i", "set i i", "end", "tell i")
            self.let_by(program, [(), (0,), (1,), (1, 1), (0,)])

    def test_x_of_a_times_one_made_again_in_its_block(self):
        program = rows("times one i 2", "tell i", "let i i", "tell i", "end", "times one i 2", "end")
        self.let_by(program, [(), (0,), (0,), (1,), ()])

    def test_behind_a_block_it_may_be_made(self):
        program = rows("if 1", "let x 1", "else", "let x 2", "end", "let x 3", "tell x")
        self.let_by(program, [(), (), (), (), (2,)])

    def test_out_of_bodies(self):
        program = rows("let a 1", "fn f b", "fn g c", "while a", "let d b + c", "set a d", "end", "end", "end")
        self.let_by(program, [(), (), (), (0,), (2, 4), (0, 5)])

    def test_beyond_the_bounds(self):
        block = (("tell", "x"),)
        for _ in range(240):
            block = (("while", "x", block),)
        self.let_by((("let", "x", 1), *block), [()] + [(0,)] * 241)


class Unknown(Looking):
    def test_each_form(self):
        for row in (
            "let a x", "let a x + 1", "let a 1 + x", "call a x", "set x 1", "tell x", "give x", "if x", "while x",
            "times own i x", "times one i x",
        ):
            text = row + ("\nelse\nend" if row[:2] == "if" else "\nend" if row[:5] in ("while", "times") else "")
            self.refused(rows(text), "unknown", 0, "x")
            self.refused(rows("let b 1", "fn f", text, "end"), "unknown", 2, "x")
        self.refused(rows("fn f p", "end", "call a f x"), "unknown", 1, "x")
        self.refused(rows("let a 1", "set a x"), "unknown", 1, "x")

    def test_own_x_is_not_ahead(self):
        self.refused(rows("let x x"), "unknown", 0, "x")
        self.refused(rows("let x 1 + x"), "unknown", 0, "x")
        self.refused(rows("call x x"), "unknown", 0, "x")
        self.refused(rows("times own x x", "end"), "unknown", 0, "x")
        self.refused(rows("times one x x", "end"), "unknown", 0, "x")

    def test_behind_its_block(self):
        for start in ("if 1", "while 1", "times own i 1", "times one i 1", "fn f"):
            arms = ["else"] if start == "if 1" else []
            self.refused(rows(start, "let x 1", *arms, "end", "tell x"), "unknown", 2, "x")
        self.refused(rows("if 1", "let x 1", "else", "tell x", "end"), "unknown", 2, "x")
        self.refused(rows("times own i 2", "end", "tell i"), "unknown", 1, "i")
        self.refused(rows("times one i 2", "end", "tell i"), "unknown", 1, "i")
        self.refused(rows("fn f p", "end", "tell p"), "unknown", 1, "p")

    def test_ahead_of_its_making(self):
        self.refused(rows("fn f", "tell x", "end", "let x 1", "call y f"), "unknown", 1, "x")
        self.refused(rows("while 1", "tell x", "let x 1", "end"), "unknown", 1, "x")
        self.refused(rows("fn f", "call x g", "end", "fn g", "end"), "unknown", 1, "g")


class Twice(Looking):
    def test_each_form(self):
        for row in ("let x 1", "let x 1 + 2", "call x f"):
            self.refused(rows("fn f", "end", "let x 1", row), "twice", 2, "x")
        self.refused(rows("let x 1", "fn x", "end"), "twice", 1, "x")
        self.refused(rows("fn x", "end", "fn x", "end"), "twice", 1, "x")

    def test_params(self):
        self.refused(rows("fn f p p", "end"), "twice", 0, "p")
        self.refused(rows("fn f a b c b a", "end"), "twice", 0, "b")
        self.refused(rows("let f 1", "fn f p p", "end"), "twice", 1, "f")
        self.refused(rows("fn f p", "let p 1", "end"), "twice", 1, "p")
        self.refused(rows("fn f p", "fn p", "end", "end"), "twice", 1, "p")

    def test_x_of_a_times(self):
        self.refused(rows("times own i 2", "let i 1", "end"), "twice", 1, "i")
        self.assertIs(look(rows("times one i 2", "let i 1", "end")), True)
        self.assertIs(look(rows("times own i 2", "end", "let i 1", "times own i 2", "end")), True)

    def test_in_each_ground(self):
        for start in ("if 1", "while 1", "times own i 1", "times one i 1", "fn f"):
            arms = ["else"] if start == "if 1" else []
            self.refused(rows(start, "let x 1", "let x 2", *arms, "end"), "twice", 2, "x")
            self.assertIs(look(rows("let x 0", start, "let x 1", *arms, "end")), True)
        self.refused(rows("if 1", "else", "let x 1", "let x 2", "end"), "twice", 2, "x")

    def test_ahead_though_never_done(self):
        self.refused(rows("give 1", "let x 1", "let x 2"), "twice", 2, "x")


class Several(Looking):
    def test_first_statement_first(self):
        self.refused(rows("let x 1", "let x 2", "tell y"), "twice", 1, "x")
        self.refused(rows("let x 1", "tell y", "let x 2"), "unknown", 1, "y")
        self.refused(rows("while 1", "tell y", "end", "tell x"), "unknown", 1, "y")
        self.refused(rows("while x", "tell y", "end"), "unknown", 0, "x")
        self.refused(rows("fn f p p", "tell y", "end"), "twice", 0, "p")
        self.refused(rows("if 1", "tell x", "else", "tell y", "end"), "unknown", 1, "x")

    def test_uses_ahead_of_makings(self):
        self.refused(rows("let x 1", "let x y"), "unknown", 1, "y")
        self.refused(rows("let x 1", "call x y"), "unknown", 1, "y")
        self.refused(rows("let x 1", "let x x"), "twice", 1, "x")

    def test_uses_in_order(self):
        self.refused(rows("let x y + z"), "unknown", 0, "y")
        self.refused(rows("let x 1 + z"), "unknown", 0, "z")
        self.refused(rows("call x f a b"), "unknown", 0, "f")
        self.refused(rows("fn f", "end", "call x f a b"), "unknown", 1, "a")
        self.refused(rows("let a 1", "call x a a b"), "unknown", 1, "b")
        self.refused(rows("set x a"), "unknown", 0, "x")
        self.refused(rows("let x 1", "set x a"), "unknown", 1, "a")

    def test_makings_in_order(self):
        self.refused(rows("let f 1", "fn f f f", "end"), "twice", 1, "f")
        self.refused(rows("fn f f f", "end"), "twice", 0, "f")


class Against(Looking):
    def test_many_programs(self):
        seen = set()
        for program in sample_programs(400) + sound_programs(300):
            spelled = Spelled(program)
            amiss = spelled.amiss()
            if amiss is None:
                self.let_by(program, spelled.meant)
            else:
                self.refused(program, *amiss)
            seen.add(amiss and amiss[0])
        self.assertEqual(seen, {None, "unknown", "twice"})

    def test_sound_programs_are_let_by(self):
        for program in sound_programs(300):
            self.assertIs(look(program), True)


class AskersOwn(Looking):
    def test_told_again(self):
        for program in sound_programs(30):
            kept = copy.deepcopy(program)
            told = meant(program)
            before = list(told)
            told.append(())
            told.reverse()
            told.clear()
            self.assertEqual(meant(program), before)
            self.assertIsNot(meant(program), meant(program))
            self.assertIs(look(program), True)
            self.assertEqual(program, kept)

    def test_refused_again(self):
        wrong = rows("let x 1", "let x 2")
        for _ in range(2):
            self.refused(wrong, "twice", 1, "x")
            self.let_by(rows("let x 1"), [()])


if __name__ == "__main__":
    unittest.main()
