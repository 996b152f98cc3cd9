"""Statements, bodies, grounds and makings, and their numbers (point 5)."""

import copy
import unittest

from fourbind.trees import bodies, body_at, grounds, makings, statements
from samples import sample_programs
from spelled import Spelled

# Every form of statement, each with its number.
GIVE_Q = ("give", "q")  # 5
FN_G = ("fn", "g", (), (GIVE_Q,))  # 4
LET_A = ("let", "a", "p")  # 3
CALL_C = ("call", "c", "g", ())  # 6
GIVE_C = ("give", "c")  # 7
FN_F = ("fn", "f", ("p", "q"), (LET_A, FN_G, CALL_C, GIVE_C))  # 2
SET_A = ("set", "a", "i")  # 10
TIMES_I = ("times", "own", "i", 3, (SET_A,))  # 9
SUM_E = ("sum", "e", "<", 1, "b")  # 11
IF = ("if", "a", (TIMES_I,), (SUM_E,))  # 8
SET_J = ("set", "j", 0)  # 14
WHILE = ("while", "j", (SET_J,))  # 13
TIMES_J = ("times", "one", "j", "b", (WHILE,))  # 12
CALL_D = ("call", "d", "f", (1, "b"))  # 15
TELL = ("tell", "d")  # 16
WHOLE = (("let", "a", 1), ("sum", "b", "+", "a", 2), FN_F, IF, TIMES_J, CALL_D, TELL)


class Lists(unittest.TestCase):
    def lists(self, program, *, stand, owners, of_bodies, of_grounds, of_makings):
        """Looks at all five at once; owners are the bodies of the statements."""
        self.assertEqual(statements(program), stand)
        self.assertEqual([body_at(program, k) for k in range(len(stand))], owners)
        self.assertEqual(bodies(program), of_bodies)
        self.assertEqual(grounds(program), of_grounds)
        self.assertEqual(makings(program), of_makings)


class Whole(Lists):
    def test_every_form(self):
        self.lists(
            WHOLE,
            stand=[
                WHOLE[0], WHOLE[1], FN_F, LET_A, FN_G, GIVE_Q, CALL_C, GIVE_C, IF, TIMES_I, SET_A, SUM_E,
                TIMES_J, WHILE, SET_J, CALL_D, TELL,
            ],
            owners=[0, 0, 0, 1, 1, 2, 1, 1, 0, 0, 0, 0, 0, 0, 0, 0, 0],
            of_bodies=[(None, ()), (2, ("p", "q")), (4, ())],
            of_grounds=[
                ("body", None, None), ("body", 2, 0), ("body", 4, 1), ("one", 8, 0), ("times", 9, 3),
                ("other", 8, 0), ("head", 12, 0), ("times", 12, 6), ("while", 13, 7),
            ],
            of_makings=[
                ("a", 0, 0), ("b", 1, 0), ("f", 2, 0), ("p", 2, 1), ("q", 2, 1), ("a", 3, 1), ("g", 4, 1),
                ("c", 6, 1), ("i", 9, 4), ("e", 11, 5), ("j", 12, 6), ("d", 15, 0),
            ],
        )

    def test_no_statements(self):
        self.lists((), stand=[], owners=[], of_bodies=[(None, ())], of_grounds=[("body", None, None)], of_makings=[])

    def test_kinds_of_values(self):
        for program in ((), WHOLE):
            for told in (statements(program), bodies(program), grounds(program), makings(program)):
                self.assertIs(told.__class__, list)
                for row in told:
                    self.assertIs(row.__class__, tuple)
        self.assertIs(body_at(WHOLE, 3).__class__, int)


class Forms(Lists):
    def alone(self, statement, of_makings):
        """A statement without blocks, of the program itself."""
        self.lists(
            (statement,), stand=[statement], owners=[0], of_bodies=[(None, ())],
            of_grounds=[("body", None, None)], of_makings=of_makings,
        )

    def test_without_blocks(self):
        self.alone(("let", "x", 5), [("x", 0, 0)])
        self.alone(("let", "x", "y"), [("x", 0, 0)])
        for sign in "+-*<=":
            self.alone(("sum", "x", sign, "y", 1), [("x", 0, 0)])
        self.alone(("call", "x", "f", ()), [("x", 0, 0)])
        self.alone(("call", "x", "f", (1, "y", "z", 2, "x")), [("x", 0, 0)])
        self.alone(("set", "x", "y"), [])
        self.alone(("tell", "x"), [])
        self.alone(("tell", 7), [])
        self.alone(("give", "x"), [])

    def one_block(self, statement, of_grounds, of_makings):
        """A statement with blocks, all empty, no fn, of the program itself."""
        self.lists(
            (statement,), stand=[statement], owners=[0], of_bodies=[(None, ())],
            of_grounds=[("body", None, None)] + of_grounds, of_makings=of_makings,
        )

    def test_empty_blocks(self):
        self.one_block(("if", "a", (), ()), [("one", 0, 0), ("other", 0, 0)], [])
        self.one_block(("while", 0, ()), [("while", 0, 0)], [])
        self.one_block(("times", "own", "i", 2, ()), [("times", 0, 0)], [("i", 0, 1)])
        self.one_block(("times", "one", "i", 2, ()), [("head", 0, 0), ("times", 0, 1)], [("i", 0, 1)])

    def test_empty_bodies(self):
        for params in ((), ("p",), ("p", "q", "r", "s")):
            fn = ("fn", "f", params, ())
            self.lists(
                (fn,), stand=[fn], owners=[0], of_bodies=[(None, ()), (0, params)],
                of_grounds=[("body", None, None), ("body", 0, 0)],
                of_makings=[("f", 0, 0)] + [(name, 0, 1) for name in params],
            )

    def test_own_makes_in_its_block_one_in_its_head(self):
        let = ("let", "y", "i")
        own, one = ("times", "own", "i", 2, (let,)), ("times", "one", "i", 2, (let,))
        self.assertEqual(makings((own,)), [("i", 0, 1), ("y", 1, 1)])
        self.assertEqual(makings((one,)), [("i", 0, 1), ("y", 1, 2)])
        self.assertEqual(grounds((one, own)), [
            ("body", None, None), ("head", 0, 0), ("times", 0, 1), ("times", 2, 0),
        ])
        self.assertEqual(makings((one, own)), [("i", 0, 1), ("y", 1, 2), ("i", 2, 3), ("y", 3, 3)])

    def test_times_one_within_times_one(self):
        inner = ("times", "one", "j", 2, ())
        self.assertEqual(grounds((("times", "one", "i", 2, (inner, inner)),)), [
            ("body", None, None), ("head", 0, 0), ("times", 0, 1),
            ("head", 1, 2), ("times", 1, 3), ("head", 2, 2), ("times", 2, 5),
        ])


class Arms(Lists):
    def test_one_arm_empty(self):
        let, tell = ("let", "x", 1), ("tell", 2)
        first, second = ("if", 1, (let,), ()), ("if", 1, (), (let,))
        self.lists(
            (first, second, tell), stand=[first, let, second, let, tell], owners=[0] * 5,
            of_bodies=[(None, ())],
            of_grounds=[("body", None, None), ("one", 0, 0), ("other", 0, 0), ("one", 2, 0), ("other", 2, 0)],
            of_makings=[("x", 1, 1), ("x", 3, 4)],
        )

    def test_all_of_one_ahead_of_other(self):
        fn_f, fn_g = ("fn", "f", ("p",), ()), ("fn", "g", ("q",), ())
        loop = ("while", 0, (fn_f,))
        both = ("if", 1, (loop,), (fn_g,))
        self.lists(
            (both,), stand=[both, loop, fn_f, fn_g], owners=[0] * 4,
            of_bodies=[(None, ()), (2, ("p",)), (3, ("q",))],
            of_grounds=[
                ("body", None, None), ("one", 0, 0), ("while", 1, 1), ("body", 2, 2), ("other", 0, 0), ("body", 3, 4),
            ],
            of_makings=[("f", 2, 2), ("p", 2, 3), ("g", 3, 4), ("q", 3, 5)],
        )


class Bodies(Lists):
    def test_fns_within_fns_and_behind(self):
        tell = ("tell", 1)
        inner = ("fn", "h", ("r",), (tell,))
        outer = ("fn", "f", ("p",), (tell, inner, tell))
        last = ("fn", "g", (), (tell,))
        self.lists(
            (outer, tell, last, tell), stand=[outer, tell, inner, tell, tell, tell, last, tell, tell],
            owners=[0, 1, 1, 2, 1, 0, 0, 3, 0],
            of_bodies=[(None, ()), (0, ("p",)), (2, ("r",)), (6, ())],
            of_grounds=[("body", None, None), ("body", 0, 0), ("body", 2, 1), ("body", 6, 0)],
            of_makings=[("f", 0, 0), ("p", 0, 1), ("h", 2, 1), ("r", 2, 2), ("g", 6, 0)],
        )

    def test_blocks_belong_to_the_body_around(self):
        tell = ("tell", 1)
        loop = ("times", "one", "i", 2, (("if", "i", (tell,), (("while", 0, (tell,)),)),))
        fn = ("fn", "f", (), (loop, tell))
        self.assertEqual([body_at((fn, loop), k) for k in range(12)], [0] + [1] * 6 + [0] * 5)

    def test_fn_within_a_loop_of_a_body(self):
        fn_g = ("fn", "g", ("x", "y"), ())
        fn_f = ("fn", "f", (), (("times", "own", "i", 2, (fn_g,)),))
        self.assertEqual(bodies((fn_f,)), [(None, ()), (0, ()), (2, ("x", "y"))])
        self.assertEqual(grounds((fn_f,)), [
            ("body", None, None), ("body", 0, 0), ("times", 1, 1), ("body", 2, 2),
        ])
        self.assertEqual(makings((fn_f,)), [("f", 0, 0), ("i", 1, 2), ("g", 2, 2), ("x", 2, 3), ("y", 2, 3)])


class NotLetBy(Lists):
    def test_names_made_twice(self):
        let, fn = ("let", "x", 1), ("fn", "x", ("x", "x"), (("let", "x", 2),))
        rounds = ("times", "own", "x", 2, (("let", "x", 3),))
        self.assertEqual(makings((let, let, fn, rounds)), [
            ("x", 0, 0), ("x", 1, 0), ("x", 2, 0), ("x", 2, 1), ("x", 2, 1), ("x", 3, 1), ("x", 4, 2), ("x", 5, 2),
        ])
        self.assertEqual(bodies((let, let, fn)), [(None, ()), (2, ("x", "x"))])

    def test_alike_statements_are_numbered_apart(self):
        let = ("let", "x", 1)
        self.lists(
            (let, let, let), stand=[let] * 3, owners=[0] * 3, of_bodies=[(None, ())],
            of_grounds=[("body", None, None)], of_makings=[("x", 0, 0), ("x", 1, 0), ("x", 2, 0)],
        )

    def test_unknown_names(self):
        program = (("call", "x", "nobody", ("y",)), ("set", "z", "w"))
        self.assertEqual(statements(program), list(program))
        self.assertEqual(makings(program), [("x", 0, 0)])


def nested(deep, wrap):
    """A program of so many blocks within one another, made by wrap from the block inside."""
    block = (("let", "x", 1),)
    for at in range(deep):
        block = (wrap(at, block),)
    return block


class Bounds(unittest.TestCase):
    def test_eight_blocks_within_one_another(self):
        wraps = (
            lambda block: ("fn", "f", ("p",), block),
            lambda block: ("if", 1, block, ()),
            lambda block: ("if", 1, (), block),
            lambda block: ("while", 1, block),
            lambda block: ("times", "own", "i", 1, block),
            lambda block: ("times", "one", "j", 1, block),
            lambda block: ("fn", "g", (), block),
            lambda block: ("while", 0, block),
        )
        program = nested(8, lambda at, block: wraps[7 - at](block))
        self.assertEqual(len(statements(program)), 9)
        self.assertEqual([body_at(program, k) for k in range(9)], [0, 1, 1, 1, 1, 1, 1, 2, 2])
        self.assertEqual(bodies(program), [(None, ()), (0, ("p",)), (6, ())])
        self.assertEqual(grounds(program), [
            ("body", None, None), ("body", 0, 0), ("one", 1, 1), ("one", 2, 2), ("other", 2, 2), ("while", 3, 4),
            ("times", 4, 5), ("head", 5, 6), ("times", 5, 7), ("body", 6, 8), ("while", 7, 9), ("other", 1, 1),
        ])
        self.assertEqual(makings(program), [
            ("f", 0, 0), ("p", 0, 1), ("i", 4, 6), ("j", 5, 7), ("g", 6, 8), ("x", 8, 10),
        ])

    def test_sixty_statements(self):
        program = tuple(("let", "abcdef", number) for number in range(60))
        self.assertEqual(statements(program), list(program))
        self.assertEqual(makings(program), [("abcdef", k, 0) for k in range(60)])
        self.assertEqual([body_at(program, k) for k in range(60)], [0] * 60)
        fns = tuple(("fn", "f", ("a", "b", "c", "d"), ()) for _ in range(60))
        self.assertEqual(len(bodies(fns)), 61)
        self.assertEqual(len(makings(fns)), 300)
        self.assertEqual(grounds(fns)[1:], [("body", k, 0) for k in range(60)])

    def test_somewhat_beyond(self):
        deep = 450
        program = nested(deep, lambda at, block: ("fn", "f", (), block))
        self.assertEqual(len(statements(program)), deep + 1)
        self.assertEqual(body_at(program, deep), deep)
        self.assertEqual(bodies(program)[-1], (deep - 1, ()))
        self.assertEqual(grounds(program)[-1], ("body", deep - 1, deep - 1))
        self.assertEqual(makings(program)[-1], ("x", deep, deep))


class AskersOwn(unittest.TestCase):
    def test_changed_lists_change_nothing(self):
        for program in ((), WHOLE):
            kept = copy.deepcopy(program)
            for ask in (statements, bodies, grounds, makings):
                before = list(ask(program))
                told = ask(program)
                told.append("more")
                self.assertEqual(ask(program), before)
                told.reverse()
                told.clear()
                self.assertEqual(ask(program), before)
                self.assertIsNot(ask(program), ask(program))
            self.assertEqual(program, kept)

    def test_whatever_was_asked_between(self):
        before = [ask(WHOLE) for ask in (statements, bodies, grounds, makings)]
        for program in sample_programs(20):
            makings(program), grounds(program), bodies(program), statements(program)
        self.assertEqual([ask(WHOLE) for ask in (statements, bodies, grounds, makings)], before)
        self.assertEqual(body_at(WHOLE, 5), 2)
        self.assertEqual(body_at(WHOLE, 5), 2)


class AgainstSpelled(Lists):
    def test_many_programs(self):
        for program in sample_programs(400):
            spelled = Spelled(program)
            self.lists(
                program, stand=[node.statement for node in spelled.nodes],
                owners=[node.body for node in spelled.nodes], of_bodies=spelled.bodies,
                of_grounds=spelled.grounds, of_makings=spelled.makings,
            )

    def test_samples_reach_the_bounds(self):
        programs = sample_programs(400)
        self.assertEqual(max(len(statements(program)) for program in programs), 60)
        sorts = {row[0] for program in programs for row in grounds(program)}
        self.assertEqual(sorts, {"body", "one", "other", "while", "times", "head"})
        words = {row[0] for program in programs for row in statements(program)}
        self.assertEqual(words, {"let", "sum", "call", "set", "tell", "give", "fn", "if", "while", "times"})


if __name__ == "__main__":
    unittest.main()
