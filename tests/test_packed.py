"""Programs made by plans (points 3, 26)."""

import copy
import unittest

from fourbind.cells import least_cells
from fourbind.flow import rows_of
from fourbind.known import may_be_known
from fourbind.needs import chain, chain_holds, needs
from fourbind.packed import packed
from fourbind.plans import CELLED, COPIED, HANDED, Plan, plan_of
from samples import FORMS, flat, holding_plans, lacking_plans, lively_programs, rows, sound_programs
from spelled import Spelled
from spelled_ways import PackedRows, made_program

# f, n, x, g, h: f calls itself, and g within it gives it.
SELF = rows("fn f n", "if n", "call x f 0", "else", "end", "fn g", "give f", "end", "give g", "end", "call h f 1")

# a, b, f, p, x, g, c, h, y, z, u, k, v, w, q: f, g and h are only called, k is given.
DEEP = rows(
    "let a 1", "let b 2", "fn f p", "let x p + a", "give x", "end", "fn g", "let c 5", "fn h", "call y f b",
    "let z y + c", "give z", "end", "call u h", "fn k", "call v f c", "give v", "end", "give k", "end", "call w g",
    "call q w",
)

ME = ("me",)


def n(number):
    return ("num", number)


def o(slot):
    return ("own", slot)


def t(place):
    return ("thing", place)


def c(place):
    return ("cell", place)


class Packed(unittest.TestCase):
    def made(self, program, plan, body, head, *wanted):
        """Looks at a made body: wanted are (mark, deed), the marks as `do 3`; all, or those begun with "..": some."""
        made = packed(program, plan)[body]
        self.assertEqual(made[0], head)
        told = [(f"{mark[0]} {mark[1]}", deed) for mark, deed, goals in made[1]]
        if wanted and wanted[0] == "..":
            for row in wanted[1:]:
                self.assertIn(row, told)
        else:
            self.assertEqual(told, list(wanted))
        self.assertEqual([(mark, goals) for mark, deed, goals in made[1]], rows_of(program, body))


class Forms(Packed):
    def test_no_statements(self):
        self.assertEqual(packed((), Plan()), ((((), ()), ((("in", 0), ("begin", None, ()), (None,)),)),))

    def test_bodies_without_statements(self):
        program = rows("fn f", "end", "fn g p", "end")
        self.assertEqual(packed(program, Plan())[1:], (
            (((), ()), ((("in", 1), ("begin", None, ()), (None,)),)),
            (((2,), ()), ((("in", 2), ("begin", None, (o(0),)), (None,)),)),
        ))

    def test_least_cells(self):
        self.assertEqual(least_cells(FORMS), (0,))
        self.made(
            FORMS, Plan(cells=(0,)), 0, ((0, 1, 5, 6, 7, 8), ()),
            ("in 0", ("begin", None, ())), ("do 0", ("let", c(o(0)), n(1))), ("do 1", ("fn", o(1), 1, (o(0),))),
            ("do 6", ("call", o(1), (c(o(0)), n(2)))), ("back 6", ("bind", o(2))), ("do 7", ("if", o(2))),
            ("in 2", ("enter", None, None)), ("do 8", ("let", o(3), o(2))), ("in 3", ("enter", None, None)),
            ("do 9", ("tell", n(0))), ("do 10", ("while", c(o(0)))), ("in 4", ("enter", None, None)),
            ("do 11", ("set", c(o(0)), n(0))), ("do 12", ("times", "own", n(3))), ("in 5", ("enter", None, o(4))),
            ("do 13", ("tell", o(4))), ("step 12", ("step", None)), ("do 14", ("times", "one", o(2))),
            ("in 6", ("enter", None, o(5))), ("in 7", ("enter", None, None)), ("do 15", ("set", o(5), n(9))),
            ("step 14", ("step", o(5))),
        )
        self.made(
            FORMS, Plan(cells=(0,)), 1, ((2, 3, 4), (0,)), ("in 1", ("begin", None, (o(0), o(1)))),
            ("do 2", ("sum", o(2), "-", o(0), c(t(0)))), ("do 3", ("set", c(t(0)), o(2))), ("do 4", ("tell", o(1))),
            ("do 5", ("give", o(2))),
        )

    def test_fewer_cells(self):
        self.made(
            FORMS, Plan(), 1, ((2, 3, 4), (0,)), ("in 1", ("begin", None, (o(0), o(1)))),
            ("do 2", ("sum", o(2), "-", o(0), t(0))), ("do 3", ("set", t(0), o(2))), ("do 4", ("tell", o(1))),
            ("do 5", ("give", o(2))),
        )
        self.made(FORMS, Plan(), 0, ((0, 1, 5, 6, 7, 8), ()), "..", ("do 0", ("let", o(0), n(1))),
                  ("do 1", ("fn", o(1), 1, (o(0),))), ("do 10", ("while", o(0))))

    def test_known(self):
        self.made(
            FORMS, Plan(known=(1,), cells=(0,)), 0, ((0, 5, 6, 7, 8), ()), "..",
            ("do 0", ("let", c(o(0)), n(1))), ("do 1", ("known", 1)), ("do 6", ("go", 1, (c(o(0)), n(2)), (o(0),))),
            ("back 6", ("bind", o(1))), ("do 8", ("let", o(2), o(1))), ("in 5", ("enter", None, o(3))),
            ("in 6", ("enter", None, o(4))),
        )
        self.assertEqual(packed(FORMS, Plan(known=(1,), cells=(0,)))[1], packed(FORMS, Plan(cells=(0,)))[1])

    def test_all_cells(self):
        """Params, the x of a sum, a call, a times of both modes, a fn: each is made in its cell."""
        plan = Plan(cells=tuple(range(9)))
        self.made(
            FORMS, plan, 0, ((0, 1, 5, 6, 7, 8), ()), "..", ("do 1", ("fn", c(o(1)), 1, (o(0),))),
            ("do 6", ("call", c(o(1)), (c(o(0)), n(2)))), ("back 6", ("bind", c(o(2)))), ("do 7", ("if", c(o(2)))),
            ("do 8", ("let", c(o(3)), c(o(2)))), ("in 5", ("enter", None, c(o(4)))), ("do 13", ("tell", c(o(4)))),
            ("step 12", ("step", None)), ("do 14", ("times", "one", c(o(2)))), ("in 6", ("enter", None, c(o(5)))),
            ("in 7", ("enter", None, None)), ("do 15", ("set", c(o(5)), n(9))), ("step 14", ("step", c(o(5)))),
        )
        self.made(
            FORMS, plan, 1, ((2, 3, 4), (0,)), ("in 1", ("begin", None, (c(o(0)), c(o(1))))),
            ("do 2", ("sum", c(o(2)), "-", c(o(0)), c(t(0)))), ("do 3", ("set", c(t(0)), c(o(2)))),
            ("do 4", ("tell", c(o(1)))), ("do 5", ("give", c(o(2)))),
        )


class OwnNames(Packed):
    def test_me(self):
        self.assertEqual(may_be_known(SELF), ())
        self.made(SELF, Plan(), 0, ((0, 4), ()), ("in 0", ("begin", None, ())), ("do 0", ("fn", o(0), 1, ())),
                  ("do 6", ("call", o(0), (n(1),))), ("back 6", ("bind", o(1))))
        self.made(
            SELF, Plan(), 1, ((1, 2, 3), ()), ("in 1", ("begin", None, (o(0),))), ("do 1", ("if", o(0))),
            ("in 2", ("enter", None, None)), ("do 2", ("call", ME, (n(0),))), ("back 2", ("bind", o(1))),
            ("in 3", ("enter", None, None)), ("do 3", ("fn", o(2), 2, (ME,))), ("do 5", ("give", o(2))),
        )
        self.made(SELF, Plan(), 2, ((), (0,)), ("in 4", ("begin", None, ())), ("do 4", ("give", t(0))))

    def test_among_the_things_where_it_is_a_cell(self):
        plan = Plan(cells=(0,))
        self.made(SELF, plan, 0, ((0, 4), ()), ("in 0", ("begin", None, ())), ("do 0", ("fn", c(o(0)), 1, (o(0),))),
                  ("do 6", ("call", c(o(0)), (n(1),))), ("back 6", ("bind", o(1))))
        self.made(SELF, plan, 1, ((1, 2, 3), (0,)), "..", ("do 2", ("call", c(t(0)), (n(0),))),
                  ("do 3", ("fn", o(2), 2, (t(0),))))
        self.made(SELF, plan, 2, ((), (0,)), ("in 4", ("begin", None, ())), ("do 4", ("give", c(t(0)))))

    def test_set_of_the_own_name(self):
        program = rows("fn f", "set f 1", "give f", "end")
        self.made(program, Plan(cells=(0,)), 1, ((), (0,)), ("in 1", ("begin", None, ())),
                  ("do 1", ("set", c(t(0)), n(1))), ("do 2", ("give", c(t(0)))))
        self.made(program, Plan(), 1, ((), ()), ("in 1", ("begin", None, ())), ("do 1", ("set", ME, n(1))),
                  ("do 2", ("give", ME)))

    def test_not_needed(self):
        program = rows("fn f", "end", "give f")
        self.made(program, Plan(cells=(0,)), 1, ((), ()), ("in 1", ("begin", None, ())))
        self.made(program, Plan(cells=(0,)), 0, ((0,), ()), ("in 0", ("begin", None, ())),
                  ("do 0", ("fn", c(o(0)), 1, ())), ("do 1", ("give", c(o(0)))))

    def test_handed_to_a_known_one(self):
        """f isn't known, and hands itself to the known g, which uses its name."""
        program = rows("fn f", "fn g", "give f", "end", "call x g", "give x", "end", "call y f", "tell y")
        # f, g, x, y
        self.made(program, Plan(known=(2,)), 1, ((2,), ()), ("in 1", ("begin", None, ())), ("do 1", ("known", 2)),
                  ("do 3", ("go", 2, (), (ME,))), ("back 3", ("bind", o(0))), ("do 4", ("give", o(0))))
        self.made(program, Plan(known=(2,)), 2, ((), (0,)), ("in 2", ("begin", None, ())), ("do 2", ("give", t(0))))
        self.made(program, Plan(known=(2,), cells=(0,)), 1, ((2,), (0,)), "..", ("do 3", ("go", 2, (), (t(0),))))

    def test_a_known_one_that_calls_itself(self):
        program = rows("let a 1", "fn f p", "call x f a", "end", "call y f 2")
        self.made(program, Plan(known=(1,)), 1, ((2, 3), (0,)), ("in 1", ("begin", None, (o(0),))),
                  ("do 2", ("go", 1, (t(0),), (t(0),))), ("back 2", ("bind", o(1))))
        self.made(program, Plan(), 1, ((2, 3), (0,)), ("in 1", ("begin", None, (o(0),))),
                  ("do 2", ("call", ME, (t(0),))), ("back 2", ("bind", o(1))))


class Knowing(Packed):
    def test_all_that_may_be(self):
        plan = plan_of(DEEP, HANDED)
        self.assertEqual(plan, Plan(known=(1, 2, 3)))
        self.made(
            DEEP, plan, 0, ((0, 1, 13, 14), ()), ("in 0", ("begin", None, ())), ("do 0", ("let", o(0), n(1))),
            ("do 1", ("let", o(1), n(2))), ("do 2", ("known", 1)), ("do 5", ("known", 2)),
            ("do 16", ("go", 2, (), (o(0), o(1)))), ("back 16", ("bind", o(2))), ("do 17", ("call", o(2), ())),
            ("back 17", ("bind", o(3))),
        )
        self.made(DEEP, plan, 1, ((3, 4), (0,)), ("in 1", ("begin", None, (o(0),))),
                  ("do 3", ("sum", o(1), "+", o(0), t(0))), ("do 4", ("give", o(1))))
        self.made(
            DEEP, plan, 2, ((6, 10, 11), (0, 1)), ("in 2", ("begin", None, ())), ("do 6", ("let", o(0), n(5))),
            ("do 7", ("known", 3)), ("do 11", ("go", 3, (), (t(0), t(1), o(0)))), ("back 11", ("bind", o(1))),
            ("do 12", ("fn", o(2), 4, (t(0), o(0)))), ("do 15", ("give", o(2))),
        )
        self.made(
            DEEP, plan, 3, ((8, 9), (0, 1, 6)), ("in 3", ("begin", None, ())), ("do 8", ("go", 1, (t(1),), (t(0),))),
            ("back 8", ("bind", o(0))), ("do 9", ("sum", o(1), "+", o(0), t(2))), ("do 10", ("give", o(1))),
        )
        self.made(DEEP, plan, 4, ((12,), (0, 6)), ("in 4", ("begin", None, ())),
                  ("do 13", ("go", 1, (t(1),), (t(0),))), ("back 13", ("bind", o(0))), ("do 14", ("give", o(0))))

    def test_one_known(self):
        plan = Plan(known=(1,))
        self.made(DEEP, plan, 0, ((0, 1, 5, 13, 14), ()), "..", ("do 2", ("known", 1)),
                  ("do 5", ("fn", o(2), 2, (o(0), o(1)))), ("do 16", ("call", o(2), ())), ("back 16", ("bind", o(3))))
        self.made(DEEP, plan, 2, ((6, 7, 10, 11), (0, 1)), "..", ("do 7", ("fn", o(1), 3, (t(0), t(1), o(0)))),
                  ("do 11", ("call", o(1), ())), ("do 12", ("fn", o(3), 4, (t(0), o(0)))))
        self.made(DEEP, plan, 3, ((8, 9), (0, 1, 6)), "..", ("do 8", ("go", 1, (t(1),), (t(0),))))

    def test_nothing_known(self):
        plan = plan_of(DEEP, COPIED)
        self.assertEqual(plan, Plan())
        self.made(DEEP, plan, 0, ((0, 1, 2, 5, 13, 14), ()), "..", ("do 2", ("fn", o(2), 1, (o(0),))),
                  ("do 5", ("fn", o(3), 2, (o(1), o(2)))), ("do 16", ("call", o(3), ())))
        self.made(DEEP, plan, 2, ((6, 7, 10, 11), (1, 2)), "..", ("do 7", ("fn", o(1), 3, (t(0), t(1), o(0)))),
                  ("do 12", ("fn", o(3), 4, (t(1), o(0)))))
        self.made(DEEP, plan, 3, ((8, 9), (1, 2, 6)), "..", ("do 8", ("call", t(1), (t(0),))),
                  ("do 9", ("sum", o(1), "+", o(0), t(2))))
        self.made(DEEP, plan, 4, ((12,), (2, 6)), "..", ("do 13", ("call", t(0), (t(1),))))

    def test_cells_handed_as_they_are(self):
        plan = Plan(known=(1, 2, 3), cells=(0, 6))
        self.made(DEEP, plan, 0, ((0, 1, 13, 14), ()), "..", ("do 0", ("let", c(o(0)), n(1))),
                  ("do 16", ("go", 2, (), (o(0), o(1)))))
        self.made(DEEP, plan, 1, ((3, 4), (0,)), "..", ("do 3", ("sum", o(1), "+", o(0), c(t(0)))))
        self.made(DEEP, plan, 2, ((6, 10, 11), (0, 1)), "..", ("do 6", ("let", c(o(0)), n(5))),
                  ("do 11", ("go", 3, (), (t(0), t(1), o(0)))), ("do 12", ("fn", o(2), 4, (t(0), o(0)))))
        self.made(DEEP, plan, 3, ((8, 9), (0, 1, 6)), "..", ("do 9", ("sum", o(1), "+", o(0), c(t(2)))))
        self.made(DEEP, plan, 4, ((12,), (0, 6)), "..", ("do 13", ("go", 1, (c(t(1)),), (t(0),))))

    def test_celled(self):
        plan = plan_of(DEEP, CELLED)
        self.assertEqual(plan, Plan(cells=(0, 1, 2, 6)))
        self.made(DEEP, plan, 0, ((0, 1, 2, 5, 13, 14), ()), "..", ("do 2", ("fn", c(o(2)), 1, (o(0),))),
                  ("do 5", ("fn", o(3), 2, (o(1), o(2)))))
        self.made(DEEP, plan, 4, ((12,), (2, 6)), "..", ("do 13", ("call", c(t(0)), (c(t(1)),))))


class Against(Packed):
    def plans(self, program, at):
        return holding_plans(program, at)[1:] + lacking_plans(program, at)

    def test_drawn_programs(self):
        words = set()
        for at, program in enumerate(sound_programs(40) + lively_programs(60)):
            spelled = Spelled(program)
            for plan in self.plans(program, at):
                made = packed(program, plan)
                self.assertEqual(made, made_program(PackedRows(spelled, plan.known, plan.cells)))
                words |= {part for part in flat(made) if isinstance(part, tuple) and part and part[0] == "cell"}
        self.assertLessEqual({c(o(0)), c(t(0))}, words)
        self.assertNotIn(c(ME), words)

    def test_things_are_just_what_some_use_means(self):
        """Point 3: for each thing a chain leads to a use; and nothing else that a body needs is left out."""
        many = 0
        for at, program in enumerate(lively_programs(40)):
            for plan in (plan_of(program, COPIED), plan_of(program, HANDED)):
                needed = needs(program, known=plan.known)
                for body, ((slots, things), made) in enumerate(packed(program, plan)):
                    left_out = set(needed[body]) - set(things)
                    self.assertLessEqual(len(left_out), 1)
                    self.assertFalse(left_out & set(plan.cells))
                    self.assertLessEqual(set(things), set(needed[body]))
                    for m in things:
                        road = chain(program, body, m, known=plan.known)
                        self.assertIs(chain_holds(program, body, m, road, known=plan.known), True)
                        many += 1
        self.assertGreater(many, 300)

    def test_told_again(self):
        others = lively_programs(4, first=600)
        for at, program in enumerate(lively_programs(8)):
            kept = copy.deepcopy(program)
            plans = self.plans(program, at)
            before = [packed(program, plan) for plan in plans]
            for other in others:
                for way in (COPIED, CELLED, HANDED):
                    packed(other, plan_of(other, way))
            self.assertEqual([packed(program, plan) for plan in plans], before)
            self.assertEqual(plans, self.plans(program, at))
            self.assertEqual(program, kept)

    def test_kinds(self):
        for at, program in enumerate([FORMS, SELF, DEEP, *lively_programs(8)]):
            for plan in self.plans(program, at):
                kinds = {thing.__class__ for thing in flat(packed(program, plan))}
                self.assertLessEqual(kinds, {tuple, str, int, type(None)})


if __name__ == "__main__":
    unittest.main()
