"""The machine: runs with linked rooms and by plans, what it has in hand, plans that lack cells (points 3, 27 to 29)."""

import copy
import unittest

from fourbind.cells import copying, least_cells
from fourbind.flow import rows_of
from fourbind.machine import Machine, machine_run
from fourbind.needs import needs
from fourbind.packed import packed
from fourbind.plain import MOST, Plain, plain_run
from fourbind.plans import WAYS, Plan, plan_of
from samples import FORMS, holding_plans, lacking_plans, lively_programs, rows, sound_programs
from spelled import Spelled
from spelled_runs import LinkedRun, PackedRun


class Machines(unittest.TestCase):
    def follows(self, program, plan, most=MOST):
        """Goes on with a machine and the plain reading, mark by mark; told is how many values it had in hand."""
        reading, machine = Plain(program), Machine(program, plan=plan)
        many, in_hand = range(len(Spelled(program).makings)), 0
        while True:
            self.assertEqual((machine.mark(), machine.end()), (reading.mark(), reading.end()), plan)
            self.assertEqual((machine.told(), len(machine)), (reading.told(), len(reading)))
            for m in many:
                worth = machine.seen(m)
                if worth is not None:
                    self.assertEqual(worth, reading.seen(m), (plan, m))
                    in_hand += 1
            if len(reading) == most or reading.mark() is None:
                self.assertEqual(machine.marks(), reading.marks())
                return in_hand
            self.assertIs(machine.turn(), reading.turn())

    def all_follow(self, program, told, end=("gave", 0), seed=1):
        """Looks at the end and the numbers told, and follows the plain reading by many plans that hold."""
        self.assertEqual((plain_run(program)[0], plain_run(program)[2]), (end, told))
        for plan in holding_plans(program, seed):
            got = machine_run(program, plan=plan)
            self.assertEqual((got[0], got[2]), (end, told), plan)
            self.follows(program, plan)

    def tells(self, program, plan, told, end=("gave", 0)):
        got = machine_run(program, plan=plan)
        self.assertEqual((got[0], got[2]), (end, told))


class Forms(Machines):
    def test_no_statements(self):
        for plan in (None, Plan()):
            self.assertEqual(machine_run((), plan=plan)[:3], (("gave", 0), [("in", 0)], []))
        self.all_follow((), [])

    def test_each_form(self):
        self.all_follow(FORMS, [2, 0, 0, 1, 2])
        self.all_follow(rows("let a 3", "let b a", "let c a * b", "set b 5", "tell a", "tell b", "tell c", "give c"),
                        [3, 5, 9], ("gave", 9))

    def test_signs(self):
        self.all_follow(rows(
            "let a 999999999 + 2", "tell a", "let b 3 - 5", "tell b", "let c 100000 * 10000", "tell c", "let d 2 < 3",
            "tell d", "let e 3 < 3", "tell e", "let f 3 = 3", "tell f", "let g 2 = 3", "tell g",
        ), [1, 999999998, 0, 1, 0, 1, 0])

    def test_empty_blocks_throughout(self):
        self.all_follow(rows(
            "fn f", "end", "call x f", "if 1", "else", "end", "if 0", "else", "end", "while 0", "end", "times own i 2",
            "end", "times one j 2", "end", "times own i 0", "end", "times one j 0", "end",
        ), [])

    def test_rounds(self):
        self.all_follow(rows("times own i 3", "set i 7", "tell i", "end"), [7, 7, 7])
        self.all_follow(rows("times one i 6", "let j i + 1", "set i j", "tell i", "end"), [1, 3, 5])
        self.all_follow(rows("let n 2", "times one i n", "tell i", "set n 9", "end", "tell n"), [0, 1, 9])
        self.all_follow(rows("let n 3", "while n", "tell n", "let m n - 1", "set n m", "end"), [3, 2, 1])
        self.all_follow(rows("let n 0", "times one i 2", "tell i", "if n", "give 8", "else", "end", "set n 1",
                             "set i 999999999", "end"), [0, 0], ("gave", 8))

    def test_gives_in_blocks(self):
        deep = ["while 1", "times one i 2", "times own j 2", "if 0", "else", "give 6"]
        ends = ["end"] * 5
        self.all_follow(rows("fn f", *deep, *ends, "call x f", "tell x", "call y f", "tell y"), [6, 6])
        self.all_follow(rows(*deep, *ends[1:]), [], ("gave", 6))


    def test_the_plan_left_out(self):
        """Then it is linked."""
        for program in (FORMS, *lively_programs(5)):
            self.assertEqual(machine_run(program), machine_run(program, plan=None))
            self.assertEqual(machine_run(program, most=30), machine_run(program, plan=None, most=30))
            left_out, linked = Machine(program), Machine(program, plan=None)
            for _ in range(30):
                left_out.turn()
                linked.turn()
            self.assertEqual((left_out.marks(), left_out.costs()), (linked.marks(), linked.costs()))
            self.assertGreater(left_out.costs()[5], 0)


class Bodies(Machines):
    def test_getting_out(self):
        counter = ["fn make n", "fn next", "let m n + 1", "set n m", "give n", "end", "give next", "end"]
        self.all_follow(rows(
            *counter, "call a make 10", "call b make 20", "call u a", "call v a", "call w b", "tell u", "tell v",
            "tell w",
        ), [11, 12, 21])

    def test_counters_that_share_a_name(self):
        self.all_follow(rows(
            "let pair 0", "fn make", "let n 0", "fn up", "let m n + 1", "set n m", "give n", "end", "fn get", "give n",
            "end", "set pair up", "give get", "end", "call a make", "let p pair", "call b make", "let q pair",
            "call x p", "call xx p", "call y q", "call ga a", "call gb b", "tell ga", "tell gb",
        ), [2, 1])

    def test_calling_itself(self):
        self.all_follow(rows(
            "fn fac n", "if n", "let m n - 1", "call k fac m", "let r n * k", "give r", "else", "give 1", "end", "end",
            "call x fac 5", "tell x",
        ), [120])
        for mode in ("own", "one"):
            self.all_follow(rows(
                "fn f d", f"times {mode} i d", "tell i", "let e d - 1", "call x f e", "tell i", "end", "end",
                "call y f 2",
            ), [0, 0, 0, 0, 1, 0, 0, 1])

    def test_calling_itself_by_another_name(self):
        self.all_follow(rows(
            "fn f n", "let me f", "if n", "let m n - 1", "call x me m", "tell n", "else", "end", "give me", "end",
            "call g f 2", "call h g 1", "give h",
        ), [1, 2, 1], ("gave", ("body", 1, 0)))

    def test_own_name_after_it_was_set(self):
        """The body that runs was made as f, but f is another by now: a cell shows it."""
        program = rows("fn f n", "if n", "call x f 0", "give x", "else", "give 1", "end", "end", "fn g n", "give 7",
                       "end", "let h f", "set f g", "call x h 1", "tell x")
        self.assertEqual(least_cells(program), (0,))
        self.all_follow(program, [7])
        self.tells(program, Plan(), [1])

    def test_rounds_whose_bodies_are_kept(self):
        """Each round of an "own" keeps its own x, and what is made in a round is that round's; a "one" has one x."""
        for mode, told in (("own", [1, 10, 2, 20]), ("one", [3, 10, 3, 20])):
            self.all_follow(rows(
                "fn no", "end", "let p no", "let q no", f"times {mode} i 3", "let t i * 10", "fn f", "tell i", "tell t",
                "end", "set p q", "set q f", "end", "call x p", "call y q",
            ), told)

    def test_whiles_whose_bodies_are_kept(self):
        self.all_follow(rows(
            "fn no", "end", "let p no", "let q no", "let n 2", "while n", "let t n", "fn f", "tell t", "tell n",
            "set t 9", "end", "set p q", "set q f", "let m n - 1", "set n m", "end", "call x p", "call y q", "call z p",
        ), [2, 0, 1, 0, 9, 0])

    def test_bodies_made_in_arms_of_rounds(self):
        self.all_follow(rows(
            "fn no", "end", "let p no", "let q no", "times own i 2", "if i", "let a 5", "fn f", "tell a", "set a i",
            "end", "set p f", "else", "let a 6", "fn g", "tell a", "set a 8", "end", "set q g", "end", "end",
            "call u p", "call v q", "call w p", "call x q",
        ), [5, 6, 1, 8])

    def test_a_one_within_rounds(self):
        self.all_follow(rows(
            "fn no", "end", "let p no", "let q no", "times own o 2", "times one i 2", "fn f", "tell i", "set i 7",
            "tell o", "end", "set p f", "if o", "else", "set q f", "end", "end", "end", "call u p", "call v q",
            "call w p",
        ), [2, 1, 2, 0, 7, 1])

    def test_recursion_within_rounds_that_make_bodies(self):
        self.all_follow(rows(
            "let k 0", "fn f d", "times own i d", "fn g", "tell i", "tell d", "end", "let e d - 1", "call x f e",
            "set k g", "call y k", "end", "end", "call z f 2", "call w k",
        ), [0, 1, 0, 2, 0, 1, 1, 2, 1, 2])

    def test_names_set_in_other_bodies(self):
        self.all_follow(rows("let n 1", "fn f", "set n 5", "end", "tell n", "call x f", "tell n", "set n 2", "call y f",
                             "tell n"), [1, 5, 5])
        self.all_follow(rows("fn f p", "fn g", "set p 9", "end", "tell p", "call x g", "tell p", "give g", "end",
                             "call h f 3", "call y h", "call z f 4"), [3, 9, 4, 9])

    def test_sets_behind_and_ahead_of_a_copy(self):
        self.all_follow(rows("let a 1", "fn f", "tell a", "end", "set a 2", "call x f"), [2])
        self.all_follow(rows("let a 1", "set a 2", "fn f", "tell a", "end", "call x f"), [2])
        self.all_follow(rows("let a 1", "times own i 2", "set a i", "fn f", "tell a", "end", "call x f", "end"), [0, 1])

    def test_names_set_to_bodies(self):
        self.all_follow(rows(
            "fn f", "give 1", "end", "fn g", "give 2", "end", "fn h", "call x f", "tell x", "end", "call y h",
            "set f g", "call z h", "let n 3", "set n h", "call w n",
        ), [1, 2, 2])

    def test_handed_through(self):
        """Known bodies that call known ones: what the innermost needs goes through all."""
        self.all_follow(rows(
            "let a 1", "fn in", "let m a + 1", "set a m", "give a", "end", "fn mid", "call x in", "give x", "end",
            "fn out", "call x mid", "fn kept", "tell a", "end", "give kept", "end", "call k out", "call u in",
            "call v k", "tell a",
        ), [3, 3])

    def test_known_within_one_that_is_given(self):
        self.all_follow(rows(
            "fn make n", "fn add d", "let s n + d", "set n s", "end", "fn twice", "call x add 1", "call y add 10",
            "give n", "end", "give twice", "end", "call a make 5", "call b make 50", "call u a", "call v b", "call w a",
            "tell u", "tell v", "tell w",
        ), [16, 61, 27])

    def test_bodies_as_told(self):
        """The fns of known bodies count, too."""
        program = rows("fn f", "end", "call x f", "fn g", "end", "give g")
        self.all_follow(program, [], ("gave", ("body", 2, 1)))
        self.all_follow(rows("fn f", "fn g", "end", "give g", "end", "call a f", "call b f", "give b"), [],
                        ("gave", ("body", 2, 2)))


class Faults(Machines):
    def test_kind(self):
        start = ["fn f p", "end"]
        for row in ("tell f", "let x f + 1", "let x 1 - f", "let x f = f", "if f\nelse\nend", "while f\nend",
                    "times own i f\nend", "times one i f\nend"):
            self.all_follow(rows(*start, row), [], ("fault", "kind", 1))
        self.all_follow(rows("let n 1", "call x n"), [], ("fault", "kind", 1))
        self.all_follow(rows("let n 1", "fn f", "call x n 1 2", "end", "call y f"), [], ("fault", "kind", 2))
        self.all_follow(rows(*start, "let n 1", "while n", "set n f", "end"), [], ("fault", "kind", 2))
        self.all_follow(rows(*start, "times one i 1", "set i f", "end"), [], ("fault", "kind", 1))
        self.all_follow(rows(*start, "times own i 1", "set i f", "end"), [])
        self.all_follow(rows("fn f p", "tell 3", "tell p", "end", "call x f f", "tell 4"), [3], ("fault", "kind", 2))

    def test_count(self):
        for row in ("call x f", "call x f 1 2", "call x f 1 2 3 4 5", "let g f\ncall x g"):
            end = ("fault", "count", 2 if row.startswith("let") else 1)
            self.all_follow(rows("fn f p", "end", row), [], end)
        self.all_follow(rows("fn f", "fn g", "end", "call x g 1", "end", "call y f"), [], ("fault", "count", 2))

    def test_the_mark_of_a_fault_counts(self):
        for plan in (None, Plan()):
            end, marks, told, costs = machine_run(rows("fn f", "end", "tell f", "tell 1"), plan=plan)
            self.assertEqual(marks, [("in", 0), ("do", 0), ("do", 1)])
            self.assertEqual((end, told), (("fault", "kind", 1), []))


class Bounds(Machines):
    def test_around_the_end(self):
        program = rows("let a 1", "tell a", "give a")
        marks = [("in", 0), ("do", 0), ("do", 1), ("do", 2)]
        for plan in (None, Plan(), Plan(cells=(0,))):
            for most, end, told in ((0, ("going",), []), (1, ("going",), []), (3, ("going",), [1]),
                                    (4, ("gave", 1), [1]), (5, ("gave", 1), [1]), (600, ("gave", 1), [1])):
                self.assertEqual(machine_run(program, plan=plan, most=most)[:3], (end, marks[:most], told))

    def test_left_out(self):
        for plan in (None, Plan()):
            end, marks, told, costs = machine_run(rows("while 1", "tell 1", "end"), plan=plan)
            self.assertEqual((end, len(marks), len(told)), (("going",), 400, 133))
            self.assertEqual(machine_run(rows("times own i 199", "end"), plan=plan)[0], ("gave", 0))
            self.assertEqual(machine_run(rows("times own i 200", "end"), plan=plan)[0], ("going",))

    def test_behind_the_end_nothing_is_done(self):
        for program in (rows("tell 1", "give 2"), rows("fn f", "end", "tell f"), ()):
            for plan in holding_plans(program, 1):
                machine = Machine(program, plan=plan)
                while machine.turn():
                    pass
                before = (machine.marks(), machine.told(), machine.end(), len(machine), machine.costs())
                self.assertIsNotNone(before[2])
                for _ in range(3):
                    self.assertIs(machine.turn(), False)
                    self.assertIsNone(machine.mark())
                    after = (machine.marks(), machine.told(), machine.end(), len(machine), machine.costs())
                    self.assertEqual(after, before)

    def test_long_runs(self):
        for program in (
            rows("fn f", "call x f", "end", "call x f"),
            rows("let n 0", "fn up", "let m n + 1", "set n m", "end", "while 1", "call x up", "end"),
            rows("let k 0", "times one i 999999999", "fn f", "tell i", "end", "set k f", "call x k", "end"),
        ):
            for plan in holding_plans(program, 2):
                self.follows(program, plan, most=600)
                self.assertEqual(machine_run(program, plan=plan, most=600)[:3], plain_run(program, most=600))

    def test_a_long_way_down(self):
        program = rows("fn f n", "if n", "let m n - 1", "call x f m", "else", "end", "end", "call x f 2000")
        for way in WAYS:
            got = machine_run(program, plan=plan_of(program, way), most=20000)
            self.assertEqual((got[0], len(got[1])), (("gave", 0), len(plain_run(program, most=20000)[1])))

    def test_blocks_deep_within_one_another(self):
        block = (("tell", 1),)
        for _ in range(100):
            block = (("if", 1, block, ()),)
        for way in WAYS:
            self.assertEqual(machine_run(block, plan=plan_of(block, way), most=600)[:3], plain_run(block, most=600))


class Seen(Machines):
    def sees(self, program, plan, *wanted):
        """Each wanted one as (mark, {making: value}), of all marks in the order of the run, the end last."""
        machine = Machine(program, plan=plan)
        many, found = range(len(Spelled(program).makings)), []
        while True:
            mark = machine.mark()
            hand = {m: machine.seen(m) for m in many if machine.seen(m) is not None}
            found.append((mark and f"{mark[0]} {mark[1]}", hand))
            if not machine.turn() and machine.mark() is None and mark is None:
                break
        self.assertEqual(found, list(wanted))

    def test_own_makings_and_things(self):
        program = rows("let a 1", "let b 2", "fn f p", "let q p + a", "if q", "let r q", "else", "end", "give q", "end",
                       "call x f b")
        # a, b, f, p, q, r, x
        f = ("body", 1, 0)
        for plan in (None, Plan(), Plan(cells=(0,)), Plan(cells=tuple(range(7)))):
            self.sees(
                program, plan, ("in 0", {}), ("do 0", {}), ("do 1", {0: 1}), ("do 2", {0: 1, 1: 2}),
                ("do 7", {0: 1, 1: 2, 2: f}), ("in 1", {0: 1}), ("do 3", {0: 1, 3: 2}), ("do 4", {0: 1, 3: 2, 4: 3}),
                ("in 2", {0: 1, 3: 2, 4: 3}), ("do 5", {0: 1, 3: 2, 4: 3}), ("do 6", {0: 1, 3: 2, 4: 3}),
                ("back 7", {0: 1, 1: 2, 2: f}), (None, {}),
            )
        for cells in ((), (0, 1, 3, 4, 5, 6)):
            self.sees(
                program, Plan(known=(1,), cells=cells), ("in 0", {}), ("do 0", {}), ("do 1", {0: 1}),
                ("do 2", {0: 1, 1: 2}), ("do 7", {0: 1, 1: 2}), ("in 1", {0: 1}), ("do 3", {0: 1, 3: 2}),
                ("do 4", {0: 1, 3: 2, 4: 3}), ("in 2", {0: 1, 3: 2, 4: 3}), ("do 5", {0: 1, 3: 2, 4: 3}),
                ("do 6", {0: 1, 3: 2, 4: 3}), ("back 7", {0: 1, 1: 2}), (None, {}),
            )

    def test_closed_blocks(self):
        """In each round what is made there is made anew; ahead of that it isn't in hand."""
        program = rows("times own i 2", "let a i", "end", "tell 5")
        for plan in (None, Plan(), Plan(cells=(0, 1))):
            self.sees(
                program, plan, ("in 0", {}), ("do 0", {}), ("in 1", {}), ("do 1", {0: 0}), ("step 0", {}),
                ("in 1", {}), ("do 1", {0: 1}), ("step 0", {}), ("do 2", {}), (None, {}),
            )
        program = rows("times one i 2", "let a i", "end", "tell 5")
        for plan in (None, Plan(), Plan(cells=(0, 1))):
            self.sees(
                program, plan, ("in 0", {}), ("do 0", {}), ("in 1", {}), ("in 2", {0: 0}), ("do 1", {0: 0}),
                ("step 0", {0: 0}), ("in 2", {0: 1}), ("do 1", {0: 1}), ("step 0", {0: 1}), ("do 2", {}), (None, {}),
            )
        program = rows("let n 1", "while n", "let a 5", "set n 0", "end", "if n", "else", "let b 6", "end")
        for plan in (None, Plan(), Plan(cells=(0, 1, 2))):
            self.sees(
                program, plan, ("in 0", {}), ("do 0", {}), ("do 1", {0: 1}), ("in 1", {0: 1}), ("do 2", {0: 1}),
                ("do 3", {0: 1, 1: 5}), ("do 1", {0: 0}), ("do 4", {0: 0}), ("in 3", {0: 0}), ("do 5", {0: 0}),
                (None, {}),
            )

    def test_own_name(self):
        program = rows("fn f n", "if n", "call x f 0", "else", "end", "end", "call y f 1")
        # f, n, x, y
        f = ("body", 1, 0)
        for plan in (None, Plan(), Plan(cells=(0,))):
            self.sees(
                program, plan, ("in 0", {}), ("do 0", {}), ("do 3", {0: f}), ("in 1", {0: f}), ("do 1", {0: f, 1: 1}),
                ("in 2", {0: f, 1: 1}), ("do 2", {0: f, 1: 1}), ("in 1", {0: f}), ("do 1", {0: f, 1: 0}),
                ("in 3", {0: f, 1: 0}), ("back 2", {0: f, 1: 1}), ("back 3", {0: f}), (None, {}),
            )
        self.sees(
            program, Plan(known=(1,)), ("in 0", {}), ("do 0", {}), ("do 3", {}), ("in 1", {}), ("do 1", {1: 1}),
            ("in 2", {1: 1}), ("do 2", {1: 1}), ("in 1", {}), ("do 1", {1: 0}), ("in 3", {1: 0}), ("back 2", {1: 1}),
            ("back 3", {}), (None, {}),
        )

    def test_own_name_that_is_not_needed(self):
        program = rows("fn f", "tell 1", "end", "call x f")
        for plan in (None, Plan(), Plan(cells=(0, 1))):
            self.sees(program, plan, ("in 0", {}), ("do 0", {}), ("do 2", {0: ("body", 1, 0)}), ("in 1", {}),
                      ("do 1", {}), ("back 2", {0: ("body", 1, 0)}), (None, {}))

    def test_own_name_needed_for_a_body_within(self):
        program = rows("fn f", "fn g", "give f", "end", "give g", "end", "call h f", "call x h")
        # f, g, h, x
        f, g = ("body", 1, 0), ("body", 2, 1)
        for plan in (None, Plan(), Plan(cells=(0,)), Plan(cells=(0, 1, 2, 3))):
            self.sees(
                program, plan, ("in 0", {}), ("do 0", {}), ("do 4", {0: f}), ("in 1", {0: f}), ("do 1", {0: f}),
                ("do 3", {0: f, 1: g}), ("back 4", {0: f}), ("do 5", {0: f, 2: g}), ("in 2", {0: f}), ("do 2", {0: f}),
                ("back 5", {0: f, 2: g}), (None, {}),
            )

    def test_handed_things(self):
        """What a known body is handed because it calls another that needs it."""
        program = rows("let a 1", "fn f", "give a", "end", "fn g", "call x f", "end", "call y g")
        # a, f, g, x, y
        f, g = ("body", 1, 0), ("body", 2, 1)
        self.sees(
            program, Plan(known=(1, 2)), ("in 0", {}), ("do 0", {}), ("do 1", {0: 1}), ("do 3", {0: 1}),
            ("do 5", {0: 1}), ("in 2", {0: 1}), ("do 4", {0: 1}), ("in 1", {0: 1}), ("do 2", {0: 1}),
            ("back 4", {0: 1}), ("back 5", {0: 1}), (None, {}),
        )
        for plan in (None, Plan()):
            self.sees(
                program, plan, ("in 0", {}), ("do 0", {}), ("do 1", {0: 1}), ("do 3", {0: 1, 1: f}),
                ("do 5", {0: 1, 1: f, 2: g}), ("in 2", {1: f}), ("do 4", {1: f}), ("in 1", {0: 1}), ("do 2", {0: 1}),
                ("back 4", {1: f}), ("back 5", {0: 1, 1: f, 2: g}), (None, {}),
            )

    def test_at_a_fault(self):
        for plan in (None, Plan()):
            self.sees(rows("let a 1", "call x a"), plan, ("in 0", {}), ("do 0", {}), ("do 1", {0: 1}), (None, {}))


class Lacking(Machines):
    """Plans whose cells lack (point 29)."""

    def apart(self, program, plan, most=MOST):
        """The first mark, and the makings, where other is in hand than the plain reading sees; None where nowhere."""
        reading, machine = Plain(program), Machine(program, plan=plan)
        many = range(len(Spelled(program).makings))
        while reading.mark() is not None and len(reading) < most:
            other = [m for m in many if None not in (machine.seen(m), reading.seen(m))
                     and machine.seen(m) != reading.seen(m)]
            if other:
                return machine.mark(), other, machine.marks()
            self.assertEqual(machine.mark(), reading.mark())
            self.assertEqual(machine.told(), reading.told())
            machine.turn()
            reading.turn()
        self.assertEqual((machine.mark(), machine.end()), (reading.mark(), reading.end()))
        return None

    def test_a_copy_that_is_behind(self):
        program = rows("let a 1", "fn f", "give a", "end", "set a 2", "call x f", "tell x")
        self.tells(program, Plan(cells=(0,)), [2])
        self.tells(program, Plan(), [1])
        self.assertEqual(self.apart(program, Plan())[:2], (("in", 1), [0]))
        self.tells(program, Plan(known=(1,)), [2])

    def test_a_set_of_a_thing_is_for_this_call_alone(self):
        program = rows("let a 1", "fn f", "tell a", "set a 5", "tell a", "end", "call x f", "tell a", "call y f")
        self.tells(program, Plan(cells=(0,)), [1, 5, 5, 5, 5])
        self.tells(program, Plan(), [1, 5, 1, 1, 5])
        self.tells(program, Plan(known=(1,)), [1, 5, 1, 1, 5])
        for plan in (Plan(), Plan(known=(1,))):
            self.assertEqual(self.apart(program, plan)[:2], (("back", 5), [0]))

    def test_a_set_of_a_thing_is_seen_by_bodies_made_later_in_this_call(self):
        program = rows("let a 1", "fn f", "set a 5", "fn g", "tell a", "end", "call x g", "give g", "end", "call h f",
                       "set a 7", "call y h", "tell a")
        self.tells(program, Plan(), [5, 5, 7])
        self.tells(program, Plan(cells=(0,)), [5, 7, 7])

    def test_a_set_of_the_own_name(self):
        program = rows("fn f", "set f 7", "give f", "end", "call x f", "tell x", "call y f", "tell y")
        self.tells(program, Plan(cells=(0,)), [7], ("fault", "kind", 5))
        self.tells(program, Plan(), [7, 7])
        self.assertEqual(self.apart(program, Plan())[:2], (("back", 3), [0]))

    def test_the_own_name_set_outside(self):
        program = rows("fn f n", "if n", "give f", "else", "end", "end", "let g f", "set f 3", "call x g 1", "give x")
        self.tells(program, Plan(cells=(0,)), [], ("gave", 3))
        self.tells(program, Plan(), [], ("gave", ("body", 1, 0)))
        self.assertEqual(self.apart(program, Plan())[:2], (("in", 1), [0]))

    def test_a_set_that_makes_a_fault(self):
        program = rows("fn no", "give 0", "end", "let p 0", "fn f", "set p no", "end", "call x f", "call y p", "tell 1")
        self.tells(program, Plan(cells=(1,)), [1])
        self.tells(program, Plan(), [], ("fault", "kind", 6))

    def test_one_x_for_all_rounds(self):
        program = rows("fn no", "end", "let p no", "times one i 3", "fn f", "tell i", "end", "if i", "else", "set p f",
                       "end", "end", "call x p")
        cells = least_cells(program)
        self.assertIn(2, cells)
        self.tells(program, Plan(cells=cells), [3])
        self.tells(program, Plan(cells=tuple(m for m in cells if m != 2)), [0])

    def test_not_behind_as_it_happens(self):
        """A cell may lack and the run be the same, where the set that needs it isn't done."""
        program = rows("let a 1", "fn f", "tell a", "end", "if 0", "set a 2", "else", "end", "call x f")
        self.assertEqual(least_cells(program), (0,))
        self.tells(program, Plan(), [1])
        self.assertIsNone(self.apart(program, Plan()))

    def test_drawn_programs(self):
        """Whatever is first otherwise must lie in a cell, doesn't, and was copied, handed, or a running body's name."""
        found = 0
        for at, program in enumerate(lively_programs(150)):
            for plan in lacking_plans(program, at):
                apart = self.apart(program, plan, most=200)
                if apart is not None:
                    mark, other, done = apart
                    spread = self.spread(program, plan, done)
                    for m in other:
                        self.assertIn(m, least_cells(program, known=plan.known))
                        self.assertNotIn(m, plan.cells)
                        self.assertIn(m, spread)
                    found += 1
        self.assertGreater(found, 100)

    def spread(self, program, plan, done):
        """What was copied by a row that copies it, handed, or the own name of a body that ran."""
        spelled, found = Spelled(program), set()
        for m in range(len(spelled.makings)):
            table = rows_of(program, spelled.body_of_making(m))
            marks = [table[at][0] for at in copying(program, m, known=plan.known)]
            if any(mark in done for mark in marks):
                found.add(m)
        made, needed = packed(program, plan), needs(program, known=plan.known)
        for head, table in made:
            for mark, deed, goals in table:
                if mark in done and deed[0] == "go":
                    found |= set(needed[deed[1]])
        for body, (k, params) in enumerate(spelled.bodies):
            if k is not None and ("in", spelled.body_grounds[body]) in done:
                found.add(spelled.nodes[k].makes[0])
        return found


class Against(Machines):
    def same(self, program, plan, run, most):
        """Goes on with a machine and a second spelling, mark by mark, and looks at all that is in hand and its costs."""
        machine = Machine(program, plan=plan)
        many = range(len(run.spelled.makings))
        for mark in run.go():
            self.assertEqual(machine.mark(), mark)
            self.assertEqual([machine.seen(m) for m in many], [run.seen(m) for m in many])
            self.assertEqual(machine.costs(), tuple(run.counts))
            if len(machine) == most:
                break
            machine.turn()
        else:
            self.assertIsNone(machine.mark())
        self.assertEqual((machine.end(), machine.told()), (run.end, run.told))
        return (run.end or ("going",))[0]

    def test_linked(self):
        ends = set()
        for program in sound_programs(80) + lively_programs(80):
            ends.add(self.same(program, None, LinkedRun(Spelled(program)), 150))
        self.assertEqual(ends, {"gave", "fault", "going"})

    def test_by_plans(self):
        ends = set()
        for at, program in enumerate(sound_programs(20) + lively_programs(50, first=200)):
            spelled = Spelled(program)
            for plan in holding_plans(program, at)[1:] + lacking_plans(program, at):
                ends.add(self.same(program, plan, PackedRun(spelled, plan.known, plan.cells), 120))
        self.assertEqual(ends, {"gave", "fault", "going"})

    def test_plain_readings(self):
        """Point 3: by every plan that holds, as the plain reading goes."""
        in_hand = 0
        for at, program in enumerate(sound_programs(30, first=500) + lively_programs(70, first=500)):
            for plan in holding_plans(program, at):
                in_hand += self.follows(program, plan, most=100)
        self.assertGreater(in_hand, 100000)


class AskersOwn(Machines):
    def state(self, machine):
        return (machine.marks(), machine.told(), machine.mark(), machine.end(), len(machine), machine.costs())

    def test_lists_emptied(self):
        program = rows("let n 2", "fn f p", "tell p", "set n p", "end", "call x f 7", "tell n")
        kept = copy.deepcopy(program)
        for plan in holding_plans(program, 3):
            machine = Machine(program, plan=plan)
            for _ in range(10):
                before = self.state(machine)
                machine.marks().clear()
                machine.told().append(9)
                self.assertEqual(self.state(machine), before)
                machine.turn()
            end, marks, told, costs = machine_run(program, plan=plan)
            marks.clear(), told.clear()
            self.assertEqual(machine_run(program, plan=plan),
                             (machine.end(), machine.marks(), machine.told(), machine.costs()))
            self.assertEqual(machine.told(), [7, 7])
        self.assertEqual(program, kept)

    def test_plans_changed_later(self):
        program = rows("let a 1", "fn f", "give a", "end", "set a 2", "call x f", "tell x")
        plan = Plan(cells=(0,))
        machine = Machine(program, plan=plan)
        plan.cells, plan.known = (), (1,)
        while machine.turn():
            pass
        self.assertEqual((machine.told(), machine.costs()), ([2], machine_run(program, plan=Plan(cells=(0,)))[3]))
        self.assertEqual((plan.known, plan.cells), ((1,), ()))

    def test_what_is_asked_changes_nothing(self):
        for at, program in enumerate(lively_programs(10)):
            many = range(len(Spelled(program).makings))
            for plan in (holding_plans(program, at) + lacking_plans(program, at))[:6]:
                asked, alone = Machine(program, plan=plan), Machine(program, plan=plan)
                for _ in range(50):
                    first = [asked.seen(m) for m in many]
                    self.assertEqual([asked.seen(m) for m in many], first)
                    self.assertIs(asked.turn(), alone.turn())
                self.assertEqual(self.state(asked), self.state(alone))

    def test_side_by_side(self):
        program = rows("let n 0", "fn up", "let m n + 1", "set n m", "tell n", "end", "times one i 5", "call x up",
                       "end")
        for plan in holding_plans(program, 4):
            first, second = Machine(program, plan=plan), Machine(program, plan=plan)
            while first.turn():
                if len(first) % 3 == 0:
                    second.turn()
            while second.turn():
                pass
            self.assertEqual(self.state(first), self.state(second))
            self.assertEqual(first.told(), [1, 2, 3, 4, 5])

    def test_kinds(self):
        program = rows("fn f", "end", "tell 3", "give f")
        for plan in (None, Plan()):
            told = machine_run(program, plan=plan)
            self.assertEqual([thing.__class__ for thing in (told, *told)], [tuple, tuple, list, list, tuple])
            self.assertTrue(all(mark.__class__ is tuple for mark in told[1]))


if __name__ == "__main__":
    unittest.main()
