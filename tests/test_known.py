"""Which bodies may be known, and why not (point 16)."""

import copy
import unittest

from fourbind.known import may_be_known, why_not
from samples import rows, sound_programs
from spelled import Spelled, bars


class Known(unittest.TestCase):
    def told(self, program, may, *why):
        """Looks at the bodies that may be known, and at why not of all bodies, body 0 ahead."""
        self.assertEqual(may_be_known(program), may)
        self.assertIs(may_be_known(program).__class__, tuple)
        self.assertEqual([why_not(program, body) for body in range(len(why))], list(why))

    def test_body_0(self):
        self.told((), (), None)
        self.told(rows("let a 1", "tell a"), (), None)

    def test_only_called(self):
        self.told(rows("fn f p", "end", "call x f 1", "call y f x"), (1,), None, None)

    def test_never_used(self):
        self.told(rows("fn f", "end"), (1,), None, None)
        self.told(rows("fn f", "fn g", "end", "end", "fn h", "end"), (1, 2, 3), None, None, None, None)

    def test_called_within_itself(self):
        self.told(rows("fn f", "call x f", "end"), (1,), None, None)
        self.told(rows("fn f", "fn g", "call x f", "call y g", "end", "end"), (1, 2), None, None, None)

    def test_other_uses(self):
        for row in ("let x f", "let x f + 1", "let x 1 = f", "tell f", "give f", "set n f", "set f n", "set f 1"):
            self.told(rows("let n 1", "fn f", "end", row), (), None, 2)
        for row in ("if f\nelse\nend", "while f\nend", "times own i f\nend", "times one i f\nend"):
            self.told(rows("let n 1", "fn f", "end", row), (), None, 2)

    def test_handed_as_an_arg(self):
        self.told(rows("fn f p", "end", "call x f f"), (), None, 1)
        self.told(rows("fn f p", "end", "fn g q", "end", "call x g f"), (2,), None, 2, None)
        self.told(rows("fn f p", "end", "call x f 1 2 f"), (), None, 1)

    def test_first_of_several(self):
        self.told(rows("fn f", "end", "call x f", "tell f", "give f"), (), None, 2)
        self.told(rows("fn f", "set f 1", "end", "call x f", "tell f"), (), None, 1)

    def test_used_within_itself(self):
        self.told(rows("fn f", "give f", "end", "call x f"), (), None, 1)

    def test_names_made_again_are_others(self):
        self.told(rows("fn f", "end", "while 1", "let f 1", "tell f", "set f 2", "end"), (1,), None, None)
        self.told(rows("fn f f", "tell f", "end", "call x f 1"), (1,), None, None)
        self.told(rows("fn f", "end", "fn g", "fn f", "end", "give f", "end"), (1, 2), None, None, None, 3)

    def test_called_by_another_name(self):
        self.told(rows("fn f", "end", "let g f", "call x g"), (), None, 1)

    def test_what_a_call_makes_is_no_use(self):
        self.told(rows("fn f", "end", "while 1", "call f f", "tell f", "end"), (1,), None, None)

    def test_against_spelled(self):
        some = 0
        for program in sound_programs(300):
            spelled = Spelled(program)
            why = [None] + [(bars(spelled, body) or [None])[0] for body in range(1, len(spelled.bodies))]
            may = tuple(body for body in range(1, len(why)) if why[body] is None)
            self.told(program, may, *why)
            some += len(set(why)) > 2
        self.assertGreater(some, 50)

    def test_asked_again(self):
        for program in sound_programs(20):
            kept = copy.deepcopy(program)
            before = may_be_known(program)
            may_be_known(rows("fn f", "end", "tell f"))
            self.assertEqual(may_be_known(program), before)
            self.assertEqual(program, kept)


if __name__ == "__main__":
    unittest.main()
