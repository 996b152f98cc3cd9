"""The desk: rows and their answers, refusals, several rows at once (points 32, 33)."""

import unittest

from fourbind.desk import Desk
from fourbind.errors import BindError, NoBegun, NoKept, NoProgram, NoRow, NoText
from fourbind.machine import Machine, machine_run
from fourbind.plans import WAYS, plan_of
from fourbind.reader import read
from fourbind.writer import shown
from samples import FORMS, lively_programs, sound_programs
from spelled import Spelled

# n, up, m, x, y: counts up twice by a body that sets n, and gives that body.
COUNTER = "let n 0 ; fn up ; let m n + 1 ; set n m ; give n ; end ; call x up ; tell x ; call y up ; tell y ; give up"


class Desks(unittest.TestCase):
    def setUp(self):
        self.desk = Desk()

    def says(self, *pairs):
        """Says each row and looks at its answer."""
        for row, answer in pairs:
            self.assertEqual(self.desk.say(row), answer, row)

    def refused(self, said, wanted, **fields):
        """Looks at a refusal, and that nothing is changed by it."""
        before = self.all_told()
        with self.assertRaises(BindError) as caught:
            self.desk.say(said)
        self.assertIs(caught.exception.__class__, wanted, said)
        self.assertEqual({name: vars(caught.exception)[name] for name in fields}, fields)
        self.assertEqual(self.all_told(), before)

    def all_told(self):
        return self.shown(), len(self.desk), self.desk.log(), self.desk.open_rows(), self.machine()

    def shown(self):
        """What is kept by the names that are used here."""
        found = {}
        for name in [*"abcdefghijklmnopqrstuvwxyz", "abcdef"]:
            try:
                found[name] = self.desk.say(f"show {name}")
            except NoKept:
                pass
        return found

    def machine(self):
        """What is told of the machine, None ahead of the first begin."""
        found = []
        try:
            found.append(self.desk.say("mark"))
            for m in range(12):
                found.append(self.desk.say(f"seen {m}"))
        except NoBegun:
            return None
        except NoRow:
            pass
        return found


class Keeping(Desks):
    def test_keep_and_show(self):
        self.says(("keep a tell 1", "1 statements 1 bodies"), ("show a", "tell 1"),
                  (f"keep abcdef {COUNTER}", "10 statements 2 bodies"), ("show abcdef", COUNTER), ("show a", "tell 1"))
        self.assertEqual(len(self.desk), 2)

    def test_in_the_place_of_what_was_kept(self):
        self.says(("keep a tell 1", "1 statements 1 bodies"), ("keep a tell 2 ; tell 3", "2 statements 1 bodies"),
                  ("show a", "tell 2 ; tell 3"))
        self.assertEqual(len(self.desk), 1)

    def test_text_without_signs(self):
        self.says(("keep a ", "0 statements 1 bodies"), ("show a", ""), ("run a linked 600", "gave 0"))
        self.refused("keep a", NoRow)
        self.assertEqual(len(self.desk), 1)

    def test_all_blocks(self):
        for program in [FORMS, *sound_programs(10), *lively_programs(10)]:
            text = shown(program).replace("\n", " ; ")
            spelled = Spelled(program)
            self.says((f"keep p {text}", f"{len(spelled.nodes)} statements {len(spelled.bodies)} bodies"),
                      ("show p", text))

    def test_no_text(self):
        self.refused("keep a tell", NoText, row=0)
        self.refused("keep a tell 1 ; tell", NoText, row=1)
        self.refused("keep a fn f", NoText, row=1)
        self.refused("keep a if 1 ; tell 1 ; end", NoText, row=2)
        self.refused("keep a  ; ", NoText, row=0)
        self.refused("keep a tell 1 ; ", NoText, row=1)
        self.refused("keep a  ; tell 1", NoText, row=0)
        self.refused("keep a tell 1 ;  ; tell 2", NoText, row=1)
        self.refused("keep a tell 1 ; ; tell 2", NoText, row=1)
        self.refused("keep a tell 1;tell 2", NoText, row=0)
        self.refused("keep a tell 1; tell 2", NoText, row=0)
        self.refused("keep a tell 1 ;", NoText, row=0)
        self.refused("keep a tell  1", NoText, row=0)
        self.refused("keep a  tell 1", NoText, row=0)
        self.refused("keep a tell 1 ", NoText, row=0)
        self.refused("keep a  ", NoText, row=0)
        self.refused("keep a tell 01", NoText, row=0)
        self.assertEqual(len(self.desk), 0)

    def test_no_program(self):
        self.says(("keep a tell 1", "1 statements 1 bodies"))
        self.refused("keep a tell x", NoProgram, word="unknown", at=0, name="x")
        self.refused("keep b let a 1 ; let a 2", NoProgram, word="twice", at=1, name="a")
        self.says(("show a", "tell 1"))
        self.assertEqual(len(self.desk), 1)

    def test_texts_ahead_of_programs(self):
        self.refused("keep a tell x ; tell", NoText, row=1)


class Running(Desks):
    def test_ends(self):
        self.desk.say(f"keep c {COUNTER}")
        self.desk.say("keep f fn g p ; end ; call x g")
        self.desk.say("keep k let a 1 ; tell 7 ; call x a")
        self.desk.say("keep w while 1 ; tell 3 ; end")
        self.desk.say("keep n give 12")
        for way in WAYS:
            self.says(
                (f"run c {way} 600", "gave body 1 0 told 1 2"), (f"run f {way} 600", "fault count 1"),
                (f"run k {way} 600", "fault kind 2 told 7"), (f"run w {way} 10", "going told 3 3 3"),
                (f"run w {way} 3", "going"), (f"run n {way} 600", "gave 12"),
            )

    def test_bounds(self):
        self.desk.say("keep a tell 1 ; give 2")
        for way in WAYS:
            self.says((f"run a {way} 0", "going"), (f"run a {way} 1", "going"), (f"run a {way} 2", "going told 1"),
                      (f"run a {way} 3", "gave 2 told 1"), (f"run a {way} 600", "gave 2 told 1"))
            self.refused(f"run a {way} 601", NoRow)
            self.refused(f"cost a {way} 601", NoRow)
        self.desk.say("keep w while 1 ; end")
        self.says(("run w linked 600", "going"), ("cost w linked 600", "0 0 0 0 0 1"))

    def test_cells(self):
        self.desk.say("keep c let a 1 ; let b 2 ; fn f ; tell a ; tell b ; end ; set a 2 ; call x f")
        self.says(("cells c linked", "none"), ("cells c copied", "0"), ("cells c celled", "0 1"),
                  ("cells c handed", "none"))
        self.desk.say("keep e ")
        self.says(*[(f"cells e {way}", "none") for way in WAYS])

    def test_costs(self):
        self.desk.say(f"keep c {COUNTER}")
        self.says(("cost c linked 600", "6 0 0 0 1 3"), ("cost c copied 600", "0 6 1 1 1 0"),
                  ("cost c celled 600", "0 6 1 1 1 0"), ("cost c handed 600", "0 6 1 1 1 0"),
                  *[(f"cost c {way} 0", "0 0 0 0 0 0") for way in WAYS])

    def test_drawn_programs(self):
        for program in lively_programs(15):
            self.desk.say("keep p " + shown(program).replace("\n", " ; "))
            for way in WAYS:
                plan = plan_of(program, way)
                for most in (0, 1, 50, 600):
                    end, marks, told, costs = machine_run(program, plan=plan, most=most)
                    words = [*end[:-1], *(end[-1] if isinstance(end[-1], tuple) else end[-1:])]
                    words += ["told", *told] if told else []
                    self.says((f"run p {way} {most}", " ".join(str(word) for word in words)),
                              (f"cost p {way} {most}", " ".join(str(number) for number in costs)))
                cells = () if plan is None else plan.cells
                self.says((f"cells p {way}", " ".join(str(m) for m in cells) or "none"))


class Going(Desks):
    def test_a_run(self):
        self.desk.say(f"keep c {COUNTER}")
        # n, up, m, x, y
        self.says(
            ("begin c copied", "begun"), ("mark", "in 0"), ("seen 0", "none"), ("go 0", "0"), ("mark", "in 0"),
            ("go 3", "3"), ("mark", "do 5"), ("seen 0", "0"), ("seen 1", "body 1 0"), ("seen 2", "none"),
            ("go 1", "1"), ("mark", "in 1"), ("seen 1", "none"), ("seen 0", "0"), ("go 4", "4"), ("mark", "back 5"),
            ("seen 0", "1"), ("go 600", "10"), ("mark", "end"), ("seen 0", "none"), ("go 600", "0"), ("go 0", "0"),
            ("mark", "end"),
        )

    def test_steps(self):
        self.desk.say("keep t times one i 2 ; tell i ; end")
        self.says(("begin t linked", "begun"), ("go 5", "5"), ("mark", "step 0"), ("seen 0", "0"), ("go 1", "1"),
                  ("seen 0", "1"), ("go 600", "3"), ("mark", "end"))

    def test_each_way(self):
        """What is in hand is the way's: the name of a known body is nowhere."""
        self.desk.say(f"keep c {COUNTER}")
        self.desk.say("keep k fn f ; tell 1 ; end ; call x f")
        for way, seen in zip(WAYS, ("body 1 0", "body 1 0", "body 1 0", "none")):
            self.says((f"begin k {way}", "begun"), ("go 2", "2"), ("seen 0", seen))

    def test_stays_whatever_is_said_between(self):
        self.desk.say(f"keep c {COUNTER}")
        self.says(
            ("begin c handed", "begun"), ("go 3", "3"), ("keep c tell 9", "1 statements 1 bodies"),
            ("run c linked 600", "gave 0 told 9"), ("cells c celled", "none"), ("cost c copied 5", "0 0 0 0 0 0"),
            ("show c", "tell 9"), ("mark", "do 5"), ("seen 1", "body 1 0"), ("seen 4", "none"), ("go 600", "15"),
            ("mark", "end"), ("begin c copied", "begun"), ("mark", "in 0"), ("go 600", "2"), ("mark", "end"),
        )
        self.refused("seen 0", NoRow)

    def test_against_machines(self):
        for program in lively_programs(6):
            self.desk.say("keep p " + shown(program).replace("\n", " ; "))
            many = range(len(Spelled(program).makings))
            for way in WAYS:
                machine = Machine(program, plan=plan_of(program, way))
                self.says((f"begin p {way}", "begun"))
                for _ in range(25):
                    mark = machine.mark()
                    self.says(("mark", "end" if mark is None else f"{mark[0]} {mark[1]}"))
                    for m in many:
                        worth = machine.seen(m)
                        wanted = "none" if worth is None else str(worth)
                        wanted = f"body {worth[1]} {worth[2]}" if isinstance(worth, tuple) else wanted
                        self.says((f"seen {m}", wanted))
                    machine.turn()
                    self.says(("go 1", "0" if mark is None else "1"))


class Refusals(Desks):
    def test_no_rows(self):
        self.desk.say(f"keep c {COUNTER}")
        self.desk.say("begin c linked")
        for row in (
            "", " ", "c", "keep", "keep ", "keep  ", "keep c", "keep C tell 1", "keep let tell 1", "keep abcdefg ",
            "keep 1 ", "keep  c", "keep  tell 1", "Keep c ", " keep c ", "show", "show ", "show c ", "show  c",
            " show c", "show c c", "show 1", "show end", "run c", "run c linked", "run c linked ", "run linked 5",
            "run c linked 5 ", "run c linked  5", "run  c linked 5", "run c linked 05", "run c linked 00",
            "run c linked -1", "run c linked +1", "run c linked 601", "run c linked 1000000000", "run c linked x",
            "run c Linked 5", "run c link 5", "run c linked 5 5", "run c linked 5.0", "cells", "cells c", "cells c ",
            "cells linked", "cells c linked 5", "cells c none", "cost c linked", "cost c linked 601",
            "cost c linked 0600", "cost c 5 linked", "begin", "begin c", "begin c linked 3", "begin c wrong", "go",
            "go ", "go x", "go 601", "go 01", "go 1 1", "go  1", "mark ", "mark 1", " mark", "mark mark", "seen",
            "seen ", "seen x", "seen 01", "seen 00", "seen -1", "seen 1000000000", "seen 0 0", "told", "end", "marks",
            "run c linked 5\n", "\nmark", "mark\n", "show c\n", "\n", "keep c tell 1\ntell 2", "keep c \n",
            "keep\nc tell 1", "go 1\ngo 1", "seen 0\n", "\tmark", "run\tc linked 5", "go \u0661", "go \u00b2",
            "keep \u00e9 ", "seen \u0660", "show c;", "mark ; mark",
        ):
            self.refused(row, NoRow)
        self.says(("show c", COUNTER), ("mark", "in 0"))

    def test_no_kept(self):
        for row in ("show q", "run q linked 5", "cells q copied", "cost q celled 600", "begin q handed", "show abcdef"):
            self.refused(row, NoKept, name=row.split(" ")[1])
        self.desk.say("keep q ")
        self.says(("show q", ""))
        self.refused("show p", NoKept, name="p")

    def test_no_begun(self):
        for row in ("go 0", "go 600", "mark", "seen 0", "seen 999999999"):
            self.refused(row, NoBegun)
        self.desk.say("keep q ")
        for row in ("go 5", "mark", "seen 0"):
            self.refused(row, NoBegun)
        self.refused("begin p linked", NoKept, name="p")
        self.refused("mark", NoBegun)
        self.says(("begin q linked", "begun"), ("mark", "in 0"))

    def test_no_making(self):
        self.desk.say(f"keep c {COUNTER}")
        self.desk.say("begin c linked")
        self.says(("seen 4", "none"))
        for m in (5, 6, 600, 601, 999999999):
            self.refused(f"seen {m}", NoRow)
        self.desk.say("keep e ")
        self.desk.say("begin e linked")
        self.refused("seen 0", NoRow)

    def test_in_order(self):
        """What is no row is that, whatever else is amiss; nothing is kept ahead of nothing begun, and so on."""
        self.refused("run q linked 601", NoRow)
        self.refused("show q\n", NoRow)
        self.refused("begin q wrong", NoRow)
        self.refused("go 601", NoRow)
        self.refused("seen 1000000000", NoRow)
        self.refused("seen 5", NoBegun)
        self.refused("keep Q tell x", NoRow)
        self.refused("keep q tell x\n", NoRow)
        self.refused("keep q tell x ; tell", NoText, row=1)

    def test_a_machine_is_kept_behind_refusals(self):
        self.desk.say(f"keep c {COUNTER}")
        self.desk.say("begin c copied")
        self.desk.say("go 6")
        before = self.machine()
        for row, wanted in (("begin q linked", NoKept), ("begin c linke", NoRow), ("keep c tell x", NoProgram),
                            ("go 601", NoRow), ("seen 9", NoRow), ("keep c tell", NoText)):
            self.refused(row, wanted)
            self.assertEqual(self.machine(), before)
        self.says(("show c", COUNTER), ("go 600", "12"))


class AtOnce(Desks):
    def test_no_rows(self):
        for rows in ([], ()):
            self.assertEqual(self.desk.say_all(rows), [])
        self.assertEqual(self.desk.log(), [("open", 0), ("shut", 0)] * 2)
        self.assertEqual(self.desk.open_rows(), 0)

    def test_lists_and_tuples(self):
        rows = ["keep a tell 4", "run a linked 5", "begin a copied", "go 1", "mark"]
        wanted = ["1 statements 1 bodies", "gave 0 told 4", "begun", "1", "do 0"]
        self.assertEqual(self.desk.say_all(rows), wanted)
        self.assertEqual(self.desk.say_all(tuple(rows)), wanted)
        self.assertEqual(self.desk.say_all(rows, quiet=False), wanted)
        self.assertEqual(rows, ["keep a tell 4", "run a linked 5", "begin a copied", "go 1", "mark"])
        self.assertEqual(self.desk.log(), [("open", 5), ("shut", 5)] * 3)
        self.assertEqual(self.desk.open_rows(), 0)

    def test_quiet(self):
        self.assertEqual(self.desk.say_all(["keep a tell 4", "begin a linked", "go 1"], quiet=True), [])
        self.assertEqual(self.desk.log(), [("open", 3), ("shut", 3)])
        self.says(("show a", "tell 4"), ("mark", "do 0"))

    def test_refusals(self):
        for quiet in (False, True):
            for rows, wanted, answered in (
                (["show q", "keep a ", "keep b "], NoKept, 0), (["keep a ", "mark", "keep b "], NoBegun, 1),
                (["keep a ", "keep b ", "keep c tell"], NoText, 2), (["keep a ", "keep b tell x"], NoProgram, 1),
                (["what"], NoRow, 0),
            ):
                desk = Desk()
                with self.assertRaises(BindError) as caught:
                    desk.say_all(rows, quiet=quiet)
                self.assertIs(caught.exception.__class__, wanted)
                self.assertEqual(desk.log(), [("open", len(rows)), ("shut", answered)])
                self.assertEqual((desk.open_rows(), len(desk)), (0, answered))
                self.assertEqual(desk.say_all(["keep z "]), ["0 statements 1 bodies"])
                self.assertEqual(desk.log()[2:], [("open", 1), ("shut", 1)])
                self.assertEqual(desk.open_rows(), 0)

    def test_what_was_done_ahead_stays(self):
        with self.assertRaises(NoKept) as caught:
            self.desk.say_all([f"keep c {COUNTER}", "begin c linked", "go 3", "show q", "go 1", "keep d "])
        self.assertEqual(caught.exception.name, "q")
        self.says(("mark", "do 5"), ("show c", COUNTER))
        self.refused("show d", NoKept, name="d")

    def test_whatever_came(self):
        """A thing that is no text at all: what comes then is open, but the log is shut."""
        for thing in (None, 5, ["mark"]):
            desk = Desk()
            with self.assertRaises(Exception):
                desk.say_all(["keep a ", thing, "keep b "])
            self.assertEqual((desk.log(), desk.open_rows()), ([("open", 3), ("shut", 1)], 0))

    def test_one_row_is_no_such_time(self):
        self.desk.say("keep a ")
        self.refused("what", NoRow)
        self.assertEqual((self.desk.log(), self.desk.open_rows()), ([], 0))

    def test_askers_own(self):
        rows = ["keep a "]
        answers = self.desk.say_all(rows)
        answers.append("x")
        rows.clear()
        log = self.desk.log()
        log.clear()
        self.assertEqual(self.desk.log(), [("open", 1), ("shut", 1)])
        self.assertEqual(self.desk.say_all(["show a"]), [""])
        self.assertTrue(all(entry.__class__ is tuple for entry in self.desk.log()))


class SideBySide(unittest.TestCase):
    def test_two_desks(self):
        first, second = Desk(), Desk()
        first.say(f"keep c {COUNTER}")
        with self.assertRaises(NoKept):
            second.say("show c")
        second.say("keep c tell 1")
        first.say("begin c linked")
        with self.assertRaises(NoBegun):
            second.say("mark")
        second.say("begin c copied")
        first.say("go 4")
        self.assertEqual((first.say("mark"), second.say("mark")), ("in 1", "in 0"))
        first.say_all(["mark"])
        self.assertEqual((first.log(), second.log()), ([("open", 1), ("shut", 1)], []))
        self.assertEqual((len(first), len(second), first.say("show c")), (1, 1, COUNTER))

    def test_read_as_the_reader_reads(self):
        desk = Desk()
        desk.say(f"keep c {COUNTER}")
        self.assertEqual(read(desk.say("show c").replace(" ; ", "\n")), read(COUNTER.replace(" ; ", "\n")))


if __name__ == "__main__":
    unittest.main()
