"""Programs made with linked rooms (point 26)."""

import copy
import unittest

from fourbind.flow import rows_of
from fourbind.linked import linked
from fourbind.rooms import home, roomed
from fourbind.trees import bodies, grounds, makings
from samples import FORMS, flat, lively_programs, rows, sound_programs
from spelled import Spelled
from spelled_ways import LinkedRows, made_program

# n, a, f, x, b, c, i, g: a while and a times "own" with rooms, an arm without.
LOOPS = rows(
    "let n 2", "while n", "let a n", "fn f", "let x a + n", "set n x", "end", "call b f", "if b", "let c a", "else",
    "end", "end", "times own i n", "fn g", "give i", "end", "end",
)

# i, a, f, x, b, g: a head, its block, and an arm with rooms.
HEADS = rows(
    "while 1", "times one i 3", "let a i", "fn f", "let x a + i", "end", "set i 9", "end", "if 1", "let b 1", "fn g",
    "tell b", "end", "else", "end", "end",
)


def r(hops, slot):
    return ("room", hops, slot)


def n(number):
    return ("num", number)


class Linked(unittest.TestCase):
    def made(self, program, body, head, *wanted):
        """Looks at a made body: wanted are (mark, deed), the marks as `do 3`."""
        made = linked(program)[body]
        self.assertEqual(made[0], head)
        self.assertEqual([(f"{mark[0]} {mark[1]}", deed) for mark, deed, goals in made[1]], list(wanted))
        self.assertEqual([(mark, goals) for mark, deed, goals in made[1]], rows_of(program, body))


class Forms(Linked):
    def test_no_statements(self):
        self.assertEqual(linked(()), ((0, ((("in", 0), ("begin", 0, ()), (None,)),)),))

    def test_bodies_without_statements(self):
        program = rows("fn f", "end", "fn g p", "end")
        self.assertEqual(linked(program)[1:], (
            (0, ((("in", 1), ("begin", 0, ()), (None,)),)), (1, ((("in", 2), ("begin", 1, (r(0, 0),)), (None,)),)),
        ))

    def test_the_program(self):
        self.made(
            FORMS, 0, 6, ("in 0", ("begin", 6, ())), ("do 0", ("let", r(0, 0), n(1))), ("do 1", ("fn", r(0, 1), 1, ())),
            ("do 6", ("call", r(0, 1), (r(0, 0), n(2)))), ("back 6", ("bind", r(0, 2))), ("do 7", ("if", r(0, 2))),
            ("in 2", ("enter", None, None)), ("do 8", ("let", r(0, 3), r(0, 2))), ("in 3", ("enter", None, None)),
            ("do 9", ("tell", n(0))), ("do 10", ("while", r(0, 0))), ("in 4", ("enter", None, None)),
            ("do 11", ("set", r(0, 0), n(0))), ("do 12", ("times", "own", n(3))), ("in 5", ("enter", None, r(0, 4))),
            ("do 13", ("tell", r(0, 4))), ("step 12", ("step", None)), ("do 14", ("times", "one", r(0, 2))),
            ("in 6", ("enter", None, r(0, 5))), ("in 7", ("enter", None, None)), ("do 15", ("set", r(0, 5), n(9))),
            ("step 14", ("step", r(0, 5))),
        )

    def test_the_body(self):
        self.made(
            FORMS, 1, 3, ("in 1", ("begin", 3, (r(0, 0), r(0, 1)))), ("do 2", ("sum", r(0, 2), "-", r(0, 0), r(1, 0))),
            ("do 3", ("set", r(1, 0), r(0, 2))), ("do 4", ("tell", r(0, 1))), ("do 5", ("give", r(0, 2))),
        )

    def test_rows_as_they_are(self):
        program = rows("let a 1", "while a", "give a", "end")
        self.assertEqual(linked(program), ((1, (
            (("in", 0), ("begin", 1, ()), (1,)), (("do", 0), ("let", r(0, 0), n(1)), (2,)),
            (("do", 1), ("while", r(0, 0)), (3, None)), (("in", 1), ("enter", None, None), (4,)),
            (("do", 2), ("give", r(0, 0)), ()),
        )),))


class WithRooms(Linked):
    def test_loops(self):
        self.made(
            LOOPS, 0, 1, ("in 0", ("begin", 1, ())), ("do 0", ("let", r(0, 0), n(2))), ("do 1", ("while", r(0, 0))),
            ("in 1", ("enter", 4, None)), ("do 2", ("let", r(0, 0), r(1, 0))), ("do 3", ("fn", r(0, 1), 1, ())),
            ("do 6", ("call", r(0, 1), ())), ("back 6", ("bind", r(0, 2))), ("do 7", ("if", r(0, 2))),
            ("in 3", ("enter", None, None)), ("do 8", ("let", r(0, 3), r(0, 0))), ("in 4", ("enter", None, None)),
            ("do 9", ("times", "own", r(0, 0))), ("in 5", ("enter", 2, r(0, 0))), ("do 10", ("fn", r(0, 1), 2, ())),
            ("step 9", ("step", None)),
        )
        self.made(LOOPS, 1, 1, ("in 2", ("begin", 1, ())), ("do 4", ("sum", r(0, 0), "+", r(1, 0), r(2, 0))),
                  ("do 5", ("set", r(2, 0), r(0, 0))))
        self.made(LOOPS, 2, 0, ("in 6", ("begin", 0, ())), ("do 11", ("give", r(1, 0))))

    def test_heads_and_arms(self):
        """Places of ("in", g) are as from the room that is made there; at a step the head's room is at hand."""
        self.made(
            HEADS, 0, 0, ("in 0", ("begin", 0, ())), ("do 0", ("while", n(1))), ("in 1", ("enter", None, None)),
            ("do 1", ("times", "one", n(3))), ("in 2", ("enter", 1, r(0, 0))), ("in 3", ("enter", 2, None)),
            ("do 2", ("let", r(0, 0), r(1, 0))), ("do 3", ("fn", r(0, 1), 1, ())), ("do 5", ("set", r(1, 0), n(9))),
            ("step 1", ("step", r(0, 0))), ("do 6", ("if", n(1))), ("in 5", ("enter", 2, None)),
            ("do 7", ("let", r(0, 0), n(1))), ("do 8", ("fn", r(0, 1), 2, ())), ("in 7", ("enter", None, None)),
        )
        self.made(HEADS, 1, 1, ("in 4", ("begin", 1, ())), ("do 4", ("sum", r(0, 0), "+", r(1, 0), r(2, 0))))

    def test_x_of_an_own_in_a_room_around(self):
        """x isn't shared and its block has no room, but the loop around has one."""
        program = rows("while 1", "let a 1", "fn f", "tell a", "end", "times own i a", "tell i", "end", "end")
        self.made(
            program, 0, 0, ("in 0", ("begin", 0, ())), ("do 0", ("while", n(1))), ("in 1", ("enter", 3, None)),
            ("do 1", ("let", r(0, 0), n(1))), ("do 2", ("fn", r(0, 1), 1, ())), ("do 4", ("times", "own", r(0, 0))),
            ("in 3", ("enter", None, r(0, 2))), ("do 5", ("tell", r(0, 2))), ("step 4", ("step", None)),
        )

    def test_calls_of_calls(self):
        """What may be known is called here as all others are."""
        program = rows("fn f p", "call x f p", "give x", "end", "fn g", "call y f 1", "end", "call z g")
        self.made(program, 1, 2, ("in 1", ("begin", 2, (r(0, 0),))), ("do 1", ("call", r(1, 0), (r(0, 0),))),
                  ("back 1", ("bind", r(0, 1))), ("do 2", ("give", r(0, 1))))
        self.made(program, 2, 1, ("in 2", ("begin", 1, ())), ("do 4", ("call", r(1, 0), (n(1),))),
                  ("back 4", ("bind", r(0, 0))))


class Against(Linked):
    def test_drawn_programs(self):
        for program in sound_programs(120) + lively_programs(120):
            self.assertEqual(linked(program), made_program(LinkedRows(Spelled(program))))

    def test_rooms_have_a_slot_for_each_making(self):
        for program in lively_programs(60):
            told = [home(program, m) for m in range(len(makings(program)))]
            sizes = {ground: len([1 for where, slot in told if where == ground]) for ground in roomed(program)}
            for head, made in linked(program):
                self.assertEqual(head, made[0][1][1])
                for (word, at), deed, goals in made:
                    if word == "in":
                        self.assertEqual(deed[1], sizes.get(at))
            self.assertEqual(len(linked(program)), len(bodies(program)))
            self.assertEqual(
                sum(deed[1] is not None for head, made in linked(program) for mark, deed, goals in made
                    if mark[0] == "in"), len(sizes))
            self.assertLessEqual(len(sizes), len(grounds(program)))

    def test_told_again(self):
        others = lively_programs(5, first=800)
        for program in lively_programs(10):
            kept = copy.deepcopy(program)
            before = linked(program)
            for other in others:
                linked(other)
            self.assertEqual(linked(program), before)
            self.assertEqual(program, kept)

    def test_kinds(self):
        for program in [FORMS, LOOPS, HEADS, *lively_programs(10)]:
            kinds = {thing.__class__ for thing in flat(linked(program))}
            self.assertLessEqual(kinds, {tuple, str, int, type(None)})


if __name__ == "__main__":
    unittest.main()
