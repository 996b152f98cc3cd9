"""The plain reading: runs by marks, ends, what is seen and whose it is (points 10 to 13)."""

import copy
import unittest

from fourbind.plain import MOST, Plain, plain_run
from fourbind.words import WIDE
from samples import rows, sound_programs
from spelled import Run, Spelled


def marks_of(text):
    """Marks as `in 0, do 1, back 2, step 3`."""
    return [(word, int(number)) for word, number in (mark.split(" ") for mark in text.split(", "))]


class Runs(unittest.TestCase):
    def runs(self, program, marks, told, end):
        """Looks at a run as a whole, and turn by turn."""
        self.assertEqual(plain_run(program), (end, marks_of(marks), told))
        reading = Plain(program)
        for at, mark in enumerate(marks_of(marks)):
            self.assertEqual((reading.mark(), len(reading), reading.end()), (mark, at, None))
            self.assertIs(reading.turn(), at + 1 < len(marks_of(marks)))
        self.assertEqual((reading.mark(), reading.end(), reading.told()), (None, end, told))
        self.assertEqual(reading.marks(), marks_of(marks))

    def tells(self, program, told, end=("gave", 0)):
        got = plain_run(program)
        self.assertEqual((got[0], got[2]), (end, told))


class Plainly(Runs):
    def test_no_statements(self):
        self.runs((), "in 0", [], ("gave", 0))

    def test_let_sum_set_tell_give(self):
        self.runs(
            rows("let a 3", "let b a", "let c a * b", "set b 5", "tell a", "tell b", "tell c", "give c", "tell 1"),
            "in 0, do 0, do 1, do 2, do 3, do 4, do 5, do 6, do 7", [3, 5, 9], ("gave", 9),
        )

    def test_signs(self):
        self.tells(rows(
            "let a 999999999 + 2", "tell a", "let b 3 - 5", "tell b", "let c 100000 * 10000", "tell c",
            "let d 2 < 3", "tell d", "let e 3 < 3", "tell e", "let f 3 = 3", "tell f", "let g 2 = 3", "tell g",
        ), [1, WIDE - 2, 0, 1, 0, 1, 0])

    def test_if(self):
        program = rows("let a 1", "if a", "tell 1", "else", "tell 2", "end", "tell 3")
        self.runs(program, "in 0, do 0, do 1, in 1, do 2, do 4", [1, 3], ("gave", 0))
        program = rows("let a 0", "if a", "tell 1", "else", "tell 2", "end", "tell 3")
        self.runs(program, "in 0, do 0, do 1, in 2, do 3, do 4", [2, 3], ("gave", 0))
        self.runs(rows("if 7", "else", "tell 2", "end"), "in 0, do 0, in 1", [], ("gave", 0))
        self.runs(rows("if 0", "tell 1", "else", "end", "tell 3"), "in 0, do 0, in 2, do 2", [3], ("gave", 0))

    def test_while(self):
        program = rows("let n 2", "while n", "tell n", "let m n - 1", "set n m", "end", "tell 9")
        self.runs(
            program, "in 0, do 0, do 1, in 1, do 2, do 3, do 4, do 1, in 1, do 2, do 3, do 4, do 1, do 5", [2, 1, 9],
            ("gave", 0),
        )
        self.runs(rows("while 0", "tell 1", "end"), "in 0, do 0", [], ("gave", 0))
        marks = marks_of("in 0, do 0, in 1, do 0, in 1")
        self.assertEqual(plain_run(rows("while 1", "end"), most=5), (("going",), marks, []))

    def test_times_own(self):
        self.runs(
            rows("times own i 2", "tell i", "end", "tell 9"),
            "in 0, do 0, in 1, do 1, step 0, in 1, do 1, step 0, do 2", [0, 1, 9], ("gave", 0),
        )
        self.runs(rows("times own i 0", "tell i", "end", "tell 9"), "in 0, do 0, do 2", [9], ("gave", 0))
        self.runs(rows("times own i 1", "end"), "in 0, do 0, in 1, step 0", [], ("gave", 0))

    def test_times_one(self):
        self.runs(
            rows("times one i 2", "tell i", "end", "tell 9"),
            "in 0, do 0, in 1, in 2, do 1, step 0, in 2, do 1, step 0, do 2", [0, 1, 9], ("gave", 0),
        )
        self.runs(rows("times one i 0", "tell i", "end", "tell 9"), "in 0, do 0, in 1, do 2", [9], ("gave", 0))
        self.runs(rows("times one i 1", "end"), "in 0, do 0, in 1, in 2, step 0", [], ("gave", 0))

    def test_x_set_within_a_round(self):
        self.tells(rows("times own i 3", "set i 7", "tell i", "end"), [7, 7, 7])
        self.tells(rows("times one i 6", "let j i + 1", "set i j", "tell i", "end"), [1, 3, 5])
        self.tells(rows("times one i 3", "tell i", "set i 999999999", "tell 5", "if 1", "give 4", "else", "end", "end"),
                   [0, 5], ("gave", 4))
        self.tells(rows("fn f", "end", "times own i 2", "tell i", "set i f", "end"), [0, 1])

    def test_step_by_the_rest_of_wide(self):
        program = rows("let n 0", "times one i 2", "tell i", "if n", "give 8", "else", "end", "set n 1",
                       "set i 999999999", "end")
        self.tells(program, [0, 0], ("gave", 8))

    def test_a_is_looked_at_once(self):
        for mode in ("own", "one"):
            self.tells(rows("let n 2", f"times {mode} i n", "tell i", "set n 9", "end", "tell n"), [0, 1, 9])
        self.tells(rows("let i 2", "times one i i", "tell i", "end"), [0, 1])

    def test_blocks_at_the_end_of_blocks(self):
        self.runs(
            rows("times own i 1", "if i", "else", "if 1", "else", "end", "end", "end"),
            "in 0, do 0, in 1, do 1, in 3, do 2, in 4, step 0", [], ("gave", 0),
        )
        self.runs(
            rows("let n 1", "while n", "set n 0", "times one i 1", "times own j 1", "end", "end", "end", "tell 2"),
            "in 0, do 0, do 1, in 1, do 2, do 3, in 2, in 3, do 4, in 4, step 4, step 3, do 1, do 5", [2], ("gave", 0),
        )

    def test_loops_over_at_the_end_of_a_body(self):
        self.runs(
            rows("fn f", "times one i 0", "end", "end", "call x f", "tell x"),
            "in 0, do 0, do 2, in 1, do 1, in 2, back 2, do 3", [0], ("gave", 0),
        )
        self.runs(
            rows("fn f", "if 1", "while 0", "end", "else", "end", "end", "call x f"),
            "in 0, do 0, do 3, in 1, do 1, in 2, do 2, back 3", [], ("gave", 0),
        )


class Bodies(Runs):
    def test_call_and_give(self):
        self.runs(
            rows("fn f p q", "let s p - q", "give s", "tell 1", "end", "call x f 9 4", "tell x"),
            "in 0, do 0, do 4, in 1, do 1, do 2, back 4, do 5", [5], ("gave", 0),
        )

    def test_without_give(self):
        self.runs(rows("fn f", "end", "call x f", "give x"), "in 0, do 0, do 1, in 1, back 1, do 2", [], ("gave", 0))
        self.tells(rows("fn f p", "tell p", "end", "call x f 3", "tell x"), [3, 0])

    def test_give_in_blocks(self):
        for start in ("if 1", "while 1", "times own i 3", "times one i 3"):
            arms = ["else"] if start == "if 1" else []
            block = [start, "tell 1", "give 5", *arms, "end", "tell 2"]
            self.tells(rows("fn f", *block, "end", "call x f", "tell x", "tell 3"), [1, 5, 3])
            self.tells(rows(*block), [1], ("gave", 5))
        deep = ["while 1", "times one i 2", "if 0", "else", "give 6"]
        self.tells(rows("fn f", *deep, "end", "end", "end", "end", "call x f", "give x"), [], ("gave", 6))
        self.runs(
            rows("fn f", "times one i 2", "give i", "end", "end", "call x f", "tell x"),
            "in 0, do 0, do 3, in 1, do 1, in 2, in 3, do 2, back 3, do 4", [0], ("gave", 0),
        )

    def test_names_are_seen_where_they_were_made(self):
        self.tells(rows("let n 1", "fn f", "tell n", "set n 5", "end", "set n 2", "call x f", "tell n"), [2, 5])
        self.tells(rows("let n 1", "fn f", "tell n", "end", "fn g", "let n 9", "call x f", "end", "call x g"), [1])
        self.tells(rows("let n 1", "fn f n", "set n 7", "tell n", "end", "call x f 4", "tell n"), [7, 1])

    def test_bodies_get_out(self):
        counter = ["fn make n", "fn next", "let m n + 1", "set n m", "give n", "end", "give next", "end"]
        program = rows(
            *counter, "call a make 10", "call b make 20", "call u a", "call v a", "call w b", "tell u", "tell v",
            "tell w",
        )
        self.tells(program, [11, 12, 21])

    def test_bodies_of_rounds(self):
        """A body for each round: an "own" keeps its own x, a "one" has one for all."""
        for mode, told in (("own", [1, 2]), ("one", [3, 3])):
            self.tells(rows(
                "fn no", "end", "let p no", "let q no", f"times {mode} i 3", "fn f", "give i", "end", "set p q",
                "set q f", "end", "call x p", "call y q", "tell x", "tell y",
            ), told)

    def test_calling_itself(self):
        self.tells(rows(
            "fn fac n", "if n", "let m n - 1", "call k fac m", "let r n * k", "give r", "else", "give 1", "end", "end",
            "call x fac 5", "tell x",
        ), [120])
        self.tells(rows(
            "fn f n", "tell n", "if n", "call x f 0", "tell n", "else", "end", "end", "call x f 3",
        ), [3, 0, 3])

    def test_calling_itself_out_of_rounds(self):
        for mode in ("own", "one"):
            self.tells(rows(
                "fn f d", f"times {mode} i d", "tell i", "let e d - 1", "call x f e", "tell i", "end", "end",
                "call y f 2",
            ), [0, 0, 0, 0, 1, 0, 0, 1])

    def test_handed_bodies(self):
        self.tells(rows("fn twice g v", "call a g v", "call b g a", "give b", "end", "fn inc n", "let m n + 1",
                        "give m", "end", "call x twice inc 5", "tell x"), [7])

    def test_set_bodies(self):
        self.tells(rows("fn f", "give 1", "end", "fn g", "give 2", "end", "call x f", "set f g", "call y f", "tell x",
                        "tell y"), [1, 2])

    def test_bodies_as_told(self):
        self.tells(rows("fn f", "end", "give f"), [], ("gave", ("body", 1, 0)))
        self.tells(rows("fn f", "end", "fn g", "end", "give g"), [], ("gave", ("body", 2, 1)))
        self.tells(rows("fn f", "fn g", "end", "give g", "end", "call a f", "call b f", "give b"), [],
                   ("gave", ("body", 2, 2)))
        self.tells(rows("let k 0", "times own i 3", "fn f", "end", "set k f", "end", "give k"), [],
                   ("gave", ("body", 1, 2)))


class Faults(Runs):
    def ends(self, marks, end, *texts):
        self.runs(rows("fn f p", "end", *texts), "in 0, do 0, " + marks, [], end)

    def test_kind(self):
        kind = ("fault", "kind", 1)
        self.ends("do 1", kind, "tell f")
        for row in ("let x f + 1", "let x 1 - f", "let x f = f", "let x f < 2", "let x 3 * f", "let x f = 1"):
            self.ends("do 1", kind, row)
        self.ends("do 1", kind, "if f", "else", "end")
        self.ends("do 1", kind, "while f", "end")
        self.ends("do 1", kind, "times own i f", "end")
        self.ends("do 1", kind, "times one i f", "end")
        self.ends("do 1, do 2", ("fault", "kind", 2), "let n 1", "call x n")
        self.ends("do 1, do 2", ("fault", "kind", 2), "let n 1", "call x n 1 2 3")

    def test_while_behind_a_round(self):
        self.ends(
            "do 1, do 2, in 2, do 3, do 2", ("fault", "kind", 2), "let n 1", "while n", "set n f", "end",
        )

    def test_step_of_a_one(self):
        self.ends("do 1, in 2, in 3, do 2, step 1", ("fault", "kind", 1), "times one i 1", "set i f", "end", "tell 2")
        self.ends("do 1, in 2, do 2, step 1", ("gave", 0), "times own i 1", "set i f", "end")

    def test_count(self):
        self.ends("do 1", ("fault", "count", 1), "call x f")
        self.ends("do 1", ("fault", "count", 1), "call x f 1 2")
        self.ends("do 1", ("fault", "count", 1), "call x f f f f f f")
        self.ends("do 1, do 2", ("fault", "count", 2), "let g f", "call x g")
        self.runs(rows("fn f", "end", "call x f 1"), "in 0, do 0, do 1", [], ("fault", "count", 1))

    def test_in_a_body(self):
        self.runs(
            rows("fn f p", "tell 3", "tell p", "end", "call x f f", "tell 4"),
            "in 0, do 0, do 3, in 1, do 1, do 2", [3], ("fault", "kind", 2),
        )

    def test_no_fault(self):
        """Bodies may be let, set, given and handed in."""
        self.tells(rows("fn f p", "give p", "end", "let g f", "set g f", "call h g g", "give h"), [],
                   ("gave", ("body", 1, 0)))

    def test_nothing_is_done_by_a_fault(self):
        program = rows("fn f", "end", "let n 1", "let m n + f")
        reading = Plain(program)
        while reading.turn():
            pass
        self.assertEqual((len(reading), reading.end(), reading.told()), (4, ("fault", "kind", 2), []))


class Bounds(Runs):
    def test_around_the_end(self):
        program = rows("let a 1", "tell a", "give a")
        marks = marks_of("in 0, do 0, do 1, do 2")
        self.assertEqual(plain_run(program, most=0), (("going",), [], []))
        self.assertEqual(plain_run(program, most=1), (("going",), marks[:1], []))
        self.assertEqual(plain_run(program, most=3), (("going",), marks[:3], [1]))
        self.assertEqual(plain_run(program, most=4), (("gave", 1), marks, [1]))
        self.assertEqual(plain_run(program, most=5), (("gave", 1), marks, [1]))
        self.assertEqual(plain_run(program, most=600), (("gave", 1), marks, [1]))

    def test_a_fault_at_the_bound(self):
        program = rows("fn f", "end", "tell f")
        self.assertEqual(plain_run(program, most=2)[0], ("going",))
        self.assertEqual(plain_run(program, most=3)[0], ("fault", "kind", 1))

    def test_no_statements(self):
        self.assertEqual(plain_run((), most=0), (("going",), [], []))
        self.assertEqual(plain_run((), most=1), (("gave", 0), [("in", 0)], []))

    def test_left_out(self):
        self.assertEqual(MOST, 400)
        end, marks, told = plain_run(rows("while 1", "tell 1", "end"))
        self.assertEqual((end, len(marks), len(told)), (("going",), 400, 133))
        # 2 marks ahead of the rounds, 2 each round: the 199th ends the run with its 400th mark.
        self.assertEqual(plain_run(rows("times own i 199", "end"))[0], ("gave", 0))
        self.assertEqual(plain_run(rows("times own i 200", "end"))[0], ("going",))
        self.assertEqual(len(plain_run(rows("times own i 200", "end"))[1]), 400)

    def test_a_long_way_down(self):
        end, marks, told = plain_run(rows("fn f", "call x f", "end", "call x f"), most=600)
        self.assertEqual((end, len(marks)), (("going",), 600))
        end, marks, told = plain_run(rows("fn f n", "if n", "let m n - 1", "call x f m", "else", "end", "end",
                                          "call x f 2000"), most=20000)
        self.assertEqual(end, ("gave", 0))

    def test_blocks_deep_within_one_another(self):
        block = (("tell", 1),)
        for _ in range(240):
            block = (("if", 1, block, ()),)
        self.assertEqual(plain_run(block, most=600)[0], ("gave", 0))
        self.assertEqual(len(plain_run(block, most=600)[1]), 482)

    def test_behind_the_end_nothing_is_done(self):
        for program in (rows("tell 1", "give 2"), rows("fn f", "end", "tell f"), ()):
            reading = Plain(program)
            while reading.turn():
                pass
            before = (reading.marks(), reading.told(), reading.end(), len(reading))
            self.assertIsNotNone(before[2])
            for _ in range(3):
                self.assertIs(reading.turn(), False)
                self.assertIsNone(reading.mark())
                self.assertEqual((reading.marks(), reading.told(), reading.end(), len(reading)), before)


class Seen(unittest.TestCase):
    def follow(self, program, most=MOST):
        """For each mark, ahead of its turn, what is seen of all makings, and whose it is; the last row is the end's."""
        many = len(Spelled(program).makings)
        reading = Plain(program)
        found = []
        while len(reading) < most:
            found.append((
                reading.mark(), [reading.seen(m) for m in range(many)], [reading.whose(m) for m in range(many)],
            ))
            if reading.mark() is None:
                break
            reading.turn()
        return found

    def sees(self, program, *wanted):
        """Each wanted one as (mark, what is seen, whose), in the order of the run."""
        found = self.follow(program)
        self.assertEqual(
            [(mark and f"{mark[0]} {mark[1]}", seen, whose) for mark, seen, whose in found], list(wanted),
        )

    def test_plain_statements(self):
        self.sees(
            rows("let a 1", "let b 2", "set a b"),
            ("in 0", [None, None], [None, None]), ("do 0", [None, None], [None, None]), ("do 1", [1, None], [0, None]),
            ("do 2", [1, 2], [0, 0]), (None, [None, None], [None, None]),
        )

    def test_at_the_first_mark_and_at_the_end(self):
        self.sees(rows("let a 1", "give a"), ("in 0", [None], [None]), ("do 0", [None], [None]), ("do 1", [1], [0]),
                  (None, [None], [None]))
        self.sees(rows("let a 1", "call b a"), ("in 0", [None] * 2, [None] * 2), ("do 0", [None] * 2, [None] * 2),
                  ("do 1", [1, None], [0, None]), (None, [None] * 2, [None] * 2))

    def test_called_body(self):
        """At ("in", g) the room at hand is the one that the made body bears, not the call's."""
        f, g = ("body", 1, 0), ("body", 2, 1)
        self.sees(
            rows("let a 1", "fn f p", "let q p", "end", "fn g", "let h 2", "call x f 7", "end", "call y g"),
            # a, f, p, q, g, h, x, y
            ("in 0", [None] * 8, [None] * 8),
            ("do 0", [None] * 8, [None] * 8),
            ("do 1", [1] + [None] * 7, [0] + [None] * 7),
            ("do 3", [1, f] + [None] * 6, [0, 0] + [None] * 6),
            ("do 6", [1, f, None, None, g, None, None, None], [0, 0, None, None, 0, None, None, None]),
            ("in 2", [1, f, None, None, g, None, None, None], [0, 0, None, None, 0, None, None, None]),
            ("do 4", [1, f, None, None, g, None, None, None], [0, 0, None, None, 0, None, None, None]),
            ("do 5", [1, f, None, None, g, 2, None, None], [0, 0, None, None, 0, 0, None, None]),
            ("in 1", [1, f, None, None, g, None, None, None], [0, 0, None, None, 0, None, None, None]),
            ("do 2", [1, f, 7, None, g, None, None, None], [0, 0, 0, None, 0, None, None, None]),
            ("back 5", [1, f, None, None, g, 2, None, None], [0, 0, None, None, 0, 0, None, None]),
            ("back 6", [1, f, None, None, g, None, None, None], [0, 0, None, None, 0, None, None, None]),
            (None, [None] * 8, [None] * 8),
        )

    def test_steps(self):
        """At a step of an "own" its x isn't seen, of a "one" it is, and what is made in the round of neither."""
        self.sees(
            rows("times own i 2", "let a i", "end"),
            ("in 0", [None, None], [None, None]), ("do 0", [None, None], [None, None]),
            ("in 1", [None, None], [None, None]), ("do 1", [0, None], [0, None]),
            ("step 0", [None, None], [None, None]),
            ("in 1", [None, None], [None, None]), ("do 1", [1, None], [1, None]),
            ("step 0", [None, None], [None, None]), (None, [None, None], [None, None]),
        )
        self.sees(
            rows("times one i 2", "let a i", "set i a", "end", "tell 1"),
            ("in 0", [None, None], [None, None]), ("do 0", [None, None], [None, None]),
            ("in 1", [None, None], [None, None]), ("in 2", [0, None], [0, None]), ("do 1", [0, None], [0, None]),
            ("do 2", [0, 0], [0, 0]), ("step 0", [0, None], [0, None]),
            ("in 2", [1, None], [0, None]), ("do 1", [1, None], [0, None]), ("do 2", [1, 1], [0, 1]),
            ("step 0", [1, None], [0, None]), ("do 3", [None, None], [None, None]), (None, [None, None], [None, None]),
        )

    def test_while_and_if(self):
        self.sees(
            rows("let n 1", "while n", "let a 5", "set n 0", "if n", "else", "let b 6", "end", "end"),
            ("in 0", [None] * 3, [None] * 3), ("do 0", [None] * 3, [None] * 3),
            ("do 1", [1, None, None], [0, None, None]), ("in 1", [1, None, None], [0, None, None]),
            ("do 2", [1, None, None], [0, None, None]), ("do 3", [1, 5, None], [0, 0, None]),
            ("do 4", [0, 5, None], [0, 0, None]), ("in 3", [0, 5, None], [0, 0, None]),
            ("do 5", [0, 5, None], [0, 0, None]), ("do 1", [0, None, None], [0, None, None]),
            (None, [None] * 3, [None] * 3),
        )

    def test_calling_itself(self):
        """Each call has rooms of its own: at ("back", k) those of the call are at hand again."""
        found = self.follow(rows("fn f n", "if n", "call x f 0", "else", "end", "end", "call y f 4"))
        # f, n, x, y
        marks = [mark for mark, seen, whose in found]
        wanted = marks_of("in 0, do 0, do 3, in 1, do 1, in 2, do 2, in 1, do 1, in 3, back 2, back 3")
        self.assertEqual(marks, wanted + [None])
        self.assertEqual([(seen[1], whose[1]) for mark, seen, whose in found], [
            (None, None), (None, None), (None, None), (None, None), (4, 0), (4, 0), (4, 0), (None, None), (0, 1),
            (0, 1), (4, 0), (None, None), (None, None),
        ])

    def test_rounds_that_call_their_own_body(self):
        program = rows(
            "fn f d", "times own i d", "let e d - 1", "call x f e", "set i 9", "tell i", "end", "end", "call y f 2",
        )
        found = self.follow(program)
        # f, d, i, e, x, y: of each tell's turn the i, which was set just ahead, and whose it is.
        tells = [(seen[1], seen[2], whose[2]) for mark, seen, whose in found if mark == ("do", 5)]
        self.assertEqual(tells, [(1, 9, 1), (2, 9, 0), (1, 9, 3), (2, 9, 2)])
        backs = [(seen[1], seen[2], whose[2]) for mark, seen, whose in found if mark == ("back", 3)]
        self.assertEqual(backs, [(1, 0, 1), (2, 0, 0), (1, 0, 3), (2, 1, 2)])

    def test_bodies_seen_out_of_other_rooms(self):
        """What a body sees is of the room that it bears, whatever rooms of that ground were made since."""
        program = rows("fn make n", "fn get", "give n", "end", "give get", "end", "call a make 5", "call b make 6",
                       "call x a", "call y b")
        found = self.follow(program)
        # make, n, get, a, b, x, y
        gets = [(seen[1], whose[1], seen[2], whose[2]) for mark, seen, whose in found if mark == ("do", 2)]
        self.assertEqual(gets, [(5, 0, ("body", 2, 1), 0), (6, 1, ("body", 2, 2), 1)])
        ins = [(seen[1], whose[1]) for mark, seen, whose in found if mark == ("in", 2)]
        self.assertEqual(ins, [(5, 0), (6, 1)])


class Against(unittest.TestCase):
    def test_many_runs_mark_by_mark(self):
        ends = set()
        for program in sound_programs(300):
            spelled = Spelled(program)
            run, reading, turns = Run(spelled), Plain(program), 0
            many = range(len(spelled.makings))
            for mark, room in run.go():
                if turns == 400:
                    break
                self.assertEqual(reading.mark(), mark)
                if turns < 80:
                    seen = [run.seen(room, m) for m in many]
                    self.assertEqual([(reading.seen(m), reading.whose(m)) for m in many], seen)
                self.assertEqual(len(reading), turns)
                reading.turn()
                turns += 1
            self.assertEqual((reading.end(), reading.told()), (run.end, run.told))
            self.assertEqual(plain_run(program), (run.end or ("going",), reading.marks(), run.told))
            ends.add((run.end or ("going",))[:2] if run.end and run.end[0] == "fault" else (run.end or ("going",))[0])
        self.assertEqual(ends, {"gave", "going", ("fault", "kind"), ("fault", "count")})

    def test_every_bound(self):
        for program in sound_programs(12):
            end, marks, told = plain_run(program)
            for most in range(0, min(len(marks) + 3, 60)):
                got = plain_run(program, most=most)
                self.assertEqual(got[1], marks[:most])
                self.assertEqual(got[0], end if most >= len(marks) else ("going",))
                self.assertEqual(got[2], told[:len(got[2])])


class AskersOwn(unittest.TestCase):
    def test_lists_emptied(self):
        program = rows("let n 2", "fn f p", "tell p", "end", "call x f n", "tell n")
        kept = copy.deepcopy(program)
        reading = Plain(program)
        for _ in range(9):
            before = (reading.marks(), reading.told(), reading.mark(), reading.end(), len(reading))
            reading.marks().clear()
            reading.told().clear()
            reading.marks().append(("do", 9))
            self.assertEqual((reading.marks(), reading.told(), reading.mark(), reading.end(), len(reading)), before)
            reading.turn()
        end, marks, told = plain_run(program)
        marks.clear(), told.clear()
        self.assertEqual(plain_run(program), (reading.end(), reading.marks(), reading.told()))
        self.assertEqual(program, kept)

    def test_what_is_asked_changes_nothing(self):
        for program in sound_programs(10):
            asked, alone = Plain(program), Plain(program)
            many = len(Spelled(program).makings)
            for _ in range(60):
                for m in range(many):
                    self.assertEqual((asked.seen(m), asked.whose(m)), (asked.seen(m), asked.whose(m)))
                self.assertIs(asked.turn(), alone.turn())
            self.assertEqual((asked.marks(), asked.told(), asked.end()), (alone.marks(), alone.told(), alone.end()))

    def test_side_by_side(self):
        program = rows(
            "let n 0", "fn up", "let m n + 1", "set n m", "tell n", "end", "times one i 5", "call x up", "end",
        )
        first, second = Plain(program), Plain(program)
        while first.turn():
            if len(first) % 3 == 0:
                second.turn()
        while second.turn():
            pass
        self.assertEqual(first.told(), [1, 2, 3, 4, 5])
        self.assertEqual((second.marks(), second.told(), second.end()), (first.marks(), first.told(), first.end()))

    def test_kinds_of_values(self):
        program = rows("fn f", "end", "tell 3", "give f")
        end, marks, told = plain_run(program)
        things = (plain_run(program), end, marks, told)
        self.assertEqual([thing.__class__ for thing in things], [tuple, tuple, list, list])
        self.assertTrue(all(mark.__class__ is tuple for mark in marks))


if __name__ == "__main__":
    unittest.main()
