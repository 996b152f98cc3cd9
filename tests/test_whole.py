"""What is promised over the whole program (points 1 to 3)."""

import copy
import unittest

from fourbind.bills import bill
from fourbind.cells import copying, least_cells, paper_holds, why_cell
from fourbind.desk import Desk
from fourbind.flow import makes, road_holds, rows_of, sets
from fourbind.four import Four
from fourbind.known import may_be_known, why_not
from fourbind.linked import linked
from fourbind.looking import look, meant
from fourbind.machine import Machine, machine_run
from fourbind.needs import chain, chain_holds, needs, packs
from fourbind.packed import packed
from fourbind.plain import Plain, plain_run
from fourbind.plans import WAYS, Plan, look_plan, plan_of
from fourbind.reader import read
from fourbind.rooms import home, hops, roomed, shared, why_room
from fourbind.trees import bodies, body_at, grounds, makings, statements
from fourbind.writer import shown
from samples import FORMS, holding_plans, knowns, lacking_plans, lively_programs, rows, sound_programs

EMPTY = (
    (), rows("fn f", "end"), rows("if 1", "else", "end"), rows("if 0", "else", "end"), rows("while 0", "end"),
    rows("times own i 2", "end"), rows("times one i 2", "end"), rows("times own i 0", "end"),
    rows("times one i 0", "end"), rows("fn f", "end", "call x f"), rows("fn f", "fn g", "end", "end", "call x f"),
    rows("fn f p", "if p", "else", "end", "while 0", "end", "times one i p", "end", "end", "call x f 2", "call y f 0"),
)


def everything(program, seed):
    """All that is told of a program, one thing a row."""
    found = [
        statements(program), bodies(program), grounds(program), makings(program), shown(program), look(program),
        read(shown(program)), meant(program), plain_run(program, most=60), may_be_known(program), shared(program),
        roomed(program), linked(program), bill(program), machine_run(program, most=60),
    ]
    for k in range(len(statements(program))):
        found += [body_at(program, k), hops(program, k)]
    for ground in range(len(grounds(program))):
        found += [why_room(program, ground), makes(program, ("in", ground)), sets(program, ("in", ground))]
    for body in range(len(bodies(program))):
        found += [rows_of(program, body), road_holds(program, body, (0,)), why_not(program, body)]
    for m in range(len(makings(program))):
        found.append(home(program, m))
    for plan in holding_plans(program, seed)[1:]:
        found += [plan, look_plan(program, plan), packed(program, plan), bill(program, plan=plan)]
        found.append(machine_run(program, plan=plan, most=60))
    for known in knowns(program, seed):
        found += told_by_known(program, known)
    return found


def told_by_known(program, known):
    found = [needs(program, known=known), packs(program, known=known), least_cells(program, known=known)]
    for m in range(0, len(makings(program)), 6):
        paper = why_cell(program, m, known=known)
        found += [copying(program, m, known=known), paper]
        if paper is not None:
            found.append(paper_holds(program, m, paper, known=known))
        for body in range(len(bodies(program))):
            road = chain(program, body, m, known=known)
            found += [road, chain_holds(program, body, m, road or (), known=known)]
    return found


def spoil(thing):
    """Empties every list and dict that was told, those within tuples, too."""
    if isinstance(thing, (list, dict)):
        for part in list(thing.values() if isinstance(thing, dict) else thing):
            spoil(part)
        thing.clear()
    elif isinstance(thing, tuple):
        for part in thing:
            spoil(part)
    elif isinstance(thing, Plan):
        thing.known, thing.cells = ("spoiled",), ("spoiled",)


def kinds(thing):
    found = {thing.__class__}
    if isinstance(thing, dict):
        thing = [*thing.keys(), *thing.values()]
    if isinstance(thing, (list, tuple)):
        for part in thing:
            found |= kinds(part)
    return found


class Told(unittest.TestCase):
    def test_again_whatever_was_asked_between(self):
        programs = [FORMS, *EMPTY, *sound_programs(6, first=40), *lively_programs(8, first=40)]
        kept = copy.deepcopy(programs)
        before = [everything(program, at) for at, program in enumerate(programs)]
        for at in reversed(range(len(programs))):
            self.assertEqual(everything(programs[at], at), before[at])
        spoiled = [everything(program, at) for at, program in enumerate(programs)]
        for told in spoiled:
            spoil(told)
        for at, program in enumerate(programs):
            self.assertEqual(everything(program, at), before[at])
        self.assertEqual(programs, kept)

    def test_kinds(self):
        """Lists and dicts where the interface tells so, else tuples, texts, whole numbers, truths, None and Plans."""
        for at, program in enumerate([FORMS, *lively_programs(6, first=60)]):
            found = kinds(everything(program, at))
            self.assertEqual(found, {list, dict, tuple, str, int, bool, type(None), Plan})

    def test_lists_are_not_within_tuples(self):
        """But in what a run tells: its marks and the numbers told."""
        for at, program in enumerate([FORMS, *lively_programs(6, first=80)]):
            for thing in everything(program, at):
                if isinstance(thing, tuple) and not (len(thing) in (3, 4) and isinstance(thing[1], list)):
                    self.assertFalse(kinds(thing) & {list, dict})

    def test_objects_side_by_side(self):
        """Readings, machines, Fours and desks go as each would alone."""
        programs = lively_programs(4, first=100)
        alone = [self.alone(program) for program in programs]
        readings = [Plain(program) for program in programs]
        machines = [[Machine(program, plan=plan_of(program, way)) for way in WAYS] for program in programs]
        wholes = [Four(program) for program in programs]
        desks = [Desk() for _ in programs]
        for desk, program in zip(desks, programs):
            desk.say_all(["keep p " + shown(program).replace("\n", " ; "), "begin p handed"])
        for _ in range(80):
            for reading, ways, whole, desk in zip(readings, machines, wholes, desks):
                reading.turn()
                whole.turn()
                desk.say("go 1")
                for machine in ways:
                    machine.turn()
        for reading, ways, whole, desk, wanted in zip(readings, machines, wholes, desks, alone):
            marks = reading.marks()
            self.assertEqual((marks, reading.told()), wanted[:2])
            self.assertTrue(all((machine.marks(), machine.told()) == wanted[:2] for machine in ways))
            self.assertEqual([machine.costs() for machine in ways], wanted[2])
            self.assertEqual([whole.costs(way) for way in WAYS], wanted[2])
            mark = reading.mark()
            self.assertEqual(desk.say("mark"), "end" if mark is None else f"{mark[0]} {mark[1]}")

    def alone(self, program):
        end, marks, told = plain_run(program, most=80)
        return marks, told, [machine_run(program, plan=plan_of(program, way), most=80)[3] for way in WAYS]


class Promise(unittest.TestCase):
    def test_empty_programs(self):
        for at, program in enumerate(EMPTY):
            wanted = plain_run(program)
            self.assertEqual(wanted[0], ("gave", 0))
            for plan in holding_plans(program, at):
                self.assertEqual(machine_run(program, plan=plan)[:3], wanted)
            whole = Four(program)
            self.assertIsNone(whole.apart())
            while whole.turn():
                self.assertIsNone(whole.apart())
            self.assertEqual((whole.end(), whole.apart()), (wanted[0], None))

    def test_long_runs(self):
        """Runs of 600 turns by every way and many plans that hold: the same marks, numbers and ends."""
        going = 0
        for at, program in enumerate(lively_programs(60, first=1000)):
            wanted = plain_run(program, most=600)
            going += wanted[0] == ("going",)
            for plan in holding_plans(program, at):
                self.assertEqual(machine_run(program, plan=plan, most=600)[:3], wanted)
        self.assertGreater(going, 5)

    def test_never_apart(self):
        for program in lively_programs(25, first=1200) + sound_programs(15, first=1200):
            whole = Four(program)
            for _ in range(100):
                self.assertIsNone(whole.apart())
                whole.turn()

    def test_a_least_cell_left_out_can_be_seen(self):
        """Of many programs some run shows it: leaving out one cell is no plan that goes as the plain reading goes."""
        shown_by = 0
        for at, program in enumerate(lively_programs(80, first=1400)):
            wanted = plain_run(program, most=200)
            for plan in lacking_plans(program, at):
                shown_by += machine_run(program, plan=plan, most=200)[:3] != wanted
        self.assertGreater(shown_by, 20)

    def test_a_set_changes_what_it_means_and_no_other(self):
        """In plain readings: what is seen of a making, while it is the same room's, changes by its sets alone."""
        changed = 0
        for program in lively_programs(60, first=1600):
            many = range(len(makings(program)))
            reading = Plain(program)
            ahead = {}
            while reading.mark() is not None and len(reading) < 150:
                m = sets(program, reading.mark())
                if m is not None:
                    changed += ahead.pop((m, reading.whose(m)), None) is not None
                reading.turn()
                for m in many:
                    if reading.seen(m) is not None:
                        place = (m, reading.whose(m))
                        self.assertEqual(reading.seen(m), ahead.setdefault(place, reading.seen(m)))
        self.assertGreater(changed, 300)

    def test_rounds_that_are_apart(self):
        """Names of rounds that are each its own are apart, one for all rounds is one: by all plans that hold."""
        for mode, told in (("own", [5, 1, 5, 1]), ("one", [5, 5, 5, 5])):
            program = rows(
                "fn no", "end", "let p no", "let q no", f"times {mode} i 2", "fn f n", "if n", "set i n", "else", "end",
                "tell i", "end", "if i", "set q f", "else", "set p f", "end", "end", "call u p 5", "call v q 0",
                "call w p 0", "call x q 0",
            )
            self.assertEqual(plain_run(program)[2], told)
            for plan in holding_plans(program, 3):
                self.assertEqual(machine_run(program, plan=plan)[2], told)


if __name__ == "__main__":
    unittest.main()
