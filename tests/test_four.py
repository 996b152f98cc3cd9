"""Four at once (point 31)."""

import unittest
from unittest import mock

from fourbind import four
from fourbind.four import Four
from fourbind.machine import Machine
from fourbind.plain import Plain
from fourbind.plans import CELLED, COPIED, HANDED, LINKED, WAYS, Plan, plan_of
from samples import FORMS, lively_programs, rows, sound_programs
from spelled import Spelled


class Fours(unittest.TestCase):
    def goes(self, program, most):
        """Goes on with a Four, the plain reading and the machines alone."""
        whole, reading = Four(program), Plain(program)
        machines = {way: Machine(program, plan=plan_of(program, way)) for way in WAYS}
        many = range(len(Spelled(program).makings))
        while True:
            self.assertIsNone(whole.apart())
            self.assertEqual((whole.mark(), whole.end()), (reading.mark(), reading.end()))
            for way in WAYS:
                self.assertEqual([whole.seen(way, m) for m in many], [machines[way].seen(m) for m in many])
                self.assertEqual(whole.costs(way), machines[way].costs())
            if reading.mark() is None or len(reading) == most:
                return whole
            more = reading.turn()
            for way in WAYS:
                machines[way].turn()
            self.assertIs(whole.turn(), more)

    def test_no_statements(self):
        whole = Four(())
        self.assertEqual((whole.mark(), whole.end(), whole.apart()), (("in", 0), None, None))
        self.assertEqual([whole.costs(way) for way in WAYS], [(0,) * 6] * 4)
        self.assertIs(whole.turn(), False)
        self.assertEqual((whole.mark(), whole.end(), whole.apart()), (None, ("gave", 0), None))
        self.assertEqual([whole.costs(way) for way in WAYS], [(0, 0, 0, 0, 0, 1)] + [(0,) * 6] * 3)

    def test_each_form(self):
        self.goes(FORMS, 400)

    def test_drawn_programs(self):
        for program in sound_programs(25) + lively_programs(40):
            self.goes(program, 120)

    def test_long_runs(self):
        for program in (
            rows("while 1", "end"), rows("fn f", "call x f", "end", "call x f"),
            rows("let n 0", "fn up", "let m n + 1", "set n m", "give up", "end", "while 1", "call x up", "call y x",
                 "end"),
        ):
            whole = self.goes(program, 600)
            self.assertIsNone(whole.end())
            self.assertIs(whole.turn(), True)

    def test_behind_the_end(self):
        for program in (rows("tell 1", "give 2"), rows("fn f", "end", "tell f")):
            whole = Four(program)
            while whole.turn():
                pass
            before = (whole.end(), [whole.costs(way) for way in WAYS])
            for _ in range(3):
                self.assertIs(whole.turn(), False)
                self.assertIsNone(whole.mark())
                self.assertIsNone(whole.apart())
                self.assertEqual((whole.end(), [whole.costs(way) for way in WAYS]), before)

    def test_each_way(self):
        program = rows("let a 1", "let b 2", "fn f", "tell a", "tell b", "end", "set a 3", "call x f")
        whole = Four(program)
        while whole.mark() != ("in", 1):
            whole.turn()
        # a, b, f, x; f is known in the handed way, and has nothing in hand of itself in any
        self.assertEqual([[whole.seen(way, m) for m in range(4)] for way in WAYS], [[3, 2, None, None]] * 4)
        self.assertEqual({way: whole.costs(way) for way in WAYS}, {
            LINKED: (0, 0, 0, 0, 1, 1), COPIED: (0, 1, 2, 1, 1, 0), CELLED: (0, 1, 2, 2, 1, 0),
            HANDED: (0, 0, 2, 0, 0, 0),
        })
        whole.turn()
        whole.turn()
        self.assertEqual([whole.costs(way)[:2] for way in WAYS], [(1, 0), (0, 2), (0, 2), (0, 0)])

    def test_side_by_side(self):
        programs = lively_programs(6)
        wholes = [Four(program) for program in programs + programs]
        for turn in range(60):
            for at, whole in enumerate(wholes):
                if at < 6 or turn % 2:
                    whole.turn()
        for turn in range(30):
            for whole in wholes[6:]:
                whole.turn()
        for first, second in zip(wholes[:6], wholes[6:]):
            self.assertEqual((first.mark(), first.end()), (second.mark(), second.end()))
            self.assertEqual([first.costs(way) for way in WAYS], [second.costs(way) for way in WAYS])


class Apart(unittest.TestCase):
    """Were a way otherwise, it would be told: so here plans are put in that lack cells."""

    def apart(self, program, plans):
        """How many turns were done, and the way, where they are apart first."""
        with mock.patch.object(four, "plan_of", lambda program, way: plans.get(way)):
            whole = Four(program)
        for turn in range(100):
            if whole.apart() is not None:
                return turn, whole.apart()
            whole.turn()
        return None

    def test_in_hand(self):
        program = rows("let a 1", "fn f", "let b a", "end", "set a 2", "call x f")
        held, lacks = Plan(cells=(0,)), Plan()
        self.assertIsNone(self.apart(program, {COPIED: held, CELLED: held, HANDED: held}))
        self.assertEqual(self.apart(program, {COPIED: held, CELLED: lacks, HANDED: held}), (5, CELLED))
        self.assertEqual(self.apart(program, {COPIED: held, CELLED: lacks, HANDED: lacks}), (5, CELLED))
        self.assertEqual(self.apart(program, {COPIED: lacks, CELLED: lacks, HANDED: lacks}), (5, COPIED))
        self.assertEqual(self.apart(program, {COPIED: held, CELLED: held, HANDED: lacks}), (5, HANDED))

    def test_the_end(self):
        program = rows("let a 1", "fn f", "set a 5", "end", "call x f", "give a")
        held, lacks = Plan(cells=(0,)), Plan()
        with mock.patch.object(four, "plan_of", lambda program, way: lacks if way == HANDED else held):
            whole = Four(program)
        while whole.turn():
            pass
        self.assertEqual((whole.end(), whole.apart()), (("gave", 5), HANDED))

    def test_numbers_told(self):
        """At the end nothing is in hand, and both gave 0: the numbers told are otherwise."""
        program = rows("let a 1", "fn f", "set a 5", "end", "call x f", "tell a")
        with mock.patch.object(four, "plan_of", lambda program, way: Plan()):
            whole = Four(program)
        while whole.turn():
            pass
        self.assertEqual((whole.end(), whole.apart()), (("gave", 0), LINKED))

    def test_marks(self):
        program = rows("let a 1", "fn f", "set a 0", "end", "call x f", "while a", "end")
        with mock.patch.object(four, "plan_of", lambda program, way: None if way == LINKED else Plan()):
            whole = Four(program)
        for _ in range(20):
            whole.turn()
        self.assertEqual((whole.end(), whole.apart()), (("gave", 0), COPIED))


if __name__ == "__main__":
    unittest.main()
