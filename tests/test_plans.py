"""Plans: when they hold, how they are refused, the plans of the ways (points 3, 22, 23)."""

import copy
import random
import unittest

from fourbind.cells import least_cells
from fourbind.errors import BindError, NoPlan
from fourbind.known import may_be_known
from fourbind.needs import needs, packs
from fourbind.plans import CELLED, COPIED, HANDED, LINKED, WAYS, Plan, look_plan, plan_of
from fourbind.rooms import shared
from samples import knowns, lively_programs, rows, sound_programs
from spelled import Known, Spelled

# n, f, m, g, x, y: f sets n in another body, g is copied and set behind; only f may be known.
COUNTER = rows(
    "let n 0", "fn f", "let m n + 1", "set n m", "end", "fn g", "call x g", "end", "set g 1", "call y f",
)


class Plans(unittest.TestCase):
    def test_fields_by_name(self):
        for plan, known, cells in (
            (Plan(), (), ()), (Plan(known=(1,)), (1,), ()), (Plan(cells=(2, 5)), (), (2, 5)),
            (Plan(known=(1, 2), cells=(3,)), (1, 2), (3,)), (Plan(cells=(3,), known=(1, 2)), (1, 2), (3,)),
        ):
            self.assertEqual((plan.known, plan.cells), (known, cells))
        with self.assertRaises(TypeError):
            Plan((1,))
        with self.assertRaises(TypeError):
            Plan((1,), (2,))

    def test_equal(self):
        self.assertTrue(Plan() == Plan())
        self.assertFalse(Plan() != Plan())
        self.assertTrue(Plan(known=(1,), cells=(2, 3)) == Plan(cells=(2, 3), known=(1,)))
        self.assertFalse(Plan(known=(1,), cells=(2, 3)) != Plan(cells=(2, 3), known=(1,)))
        plans = [Plan(known=known, cells=cells) for known in ((), (1,), (2,), (1, 2)) for cells in ((), (1,), (1, 2))]
        for at, one in enumerate(plans):
            for behind, other in enumerate(plans):
                self.assertIs(one == other, at == behind)
                self.assertIs(one != other, at != behind)

    def test_equal_to_nothing_else(self):
        for other in ((), ((), ()), "Plan(known=(), cells=())", "", 0, 1, None, [], True, False):
            for plan in (Plan(), Plan(known=(1,), cells=(2,))):
                self.assertIs(plan == other, False)
                self.assertIs(plan != other, True)
                self.assertIs(other == plan, False)
                self.assertIs(other != plan, True)

    def test_repr(self):
        self.assertEqual(repr(Plan()), "Plan(known=(), cells=())")
        self.assertEqual(repr(Plan(known=(1, 3), cells=(2,))), "Plan(known=(1, 3), cells=(2,))")
        self.assertEqual(repr(Plan(cells=(0, 1, 2))), "Plan(known=(), cells=(0, 1, 2))")
        self.assertEqual(repr(Plan(known=(-7, 10 ** 30), cells=(-10 ** 20, -1))),
                         f"Plan(known=(-7, {10 ** 30}), cells=({-10 ** 20}, -1))")

    def test_len(self):
        self.assertEqual([len(Plan()), len(Plan(known=(1, 2))), len(Plan(cells=(4,))), len(Plan(cells=(1, 2, 9)))],
                         [0, 0, 1, 3])

    def test_ways(self):
        self.assertEqual((LINKED, COPIED, CELLED, HANDED), ("linked", "copied", "celled", "handed"))
        self.assertEqual(WAYS, ("linked", "copied", "celled", "handed"))


class Looked(unittest.TestCase):
    def refused(self, program, plan, word, at):
        with self.assertRaises(NoPlan) as caught:
            look_plan(program, plan)
        self.assertEqual((caught.exception.word, caught.exception.at), (word, at))
        self.assertIsInstance(caught.exception, BindError)

    def test_holds(self):
        self.assertEqual(least_cells(COUNTER), (0, 3))
        for known in ((), (1,)):
            names = (1,) if known else ()
            free = [m for m in (1, 2, 4, 5) if m not in names]
            for many in range(len(free) + 1):
                plan = Plan(known=known, cells=tuple(sorted([0, 3] + free[:many])))
                self.assertIs(look_plan(COUNTER, plan), True)
        self.assertIs(look_plan((), Plan()), True)

    def test_known(self):
        cells = (0, 3)
        for known, at in (((2,), 2), ((0,), 0), ((0, 1), 0), ((1, 2), 2), ((1, 3), 3), ((-1,), -1), ((-1, 1), -1),
                          ((-5, -2, 7), -5), ((1, 10 ** 20), 10 ** 20), ((0, 1, 2, 3), 0), ((1, 2, 3), 2)):
            self.refused(COUNTER, Plan(known=known, cells=cells), "known", at)
        self.refused((), Plan(known=(0,)), "known", 0)
        self.refused((), Plan(known=(1,)), "known", 1)

    def test_cell(self):
        for cells, at in (((-1, 0, 3), -1), ((0, 3, 6), 6), ((0, 3, 6, 7), 6), ((-3, -1, 0, 3, 9), -3),
                          ((0, 3, 10 ** 20), 10 ** 20)):
            self.refused(COUNTER, Plan(cells=cells), "cell", at)
        self.refused(COUNTER, Plan(known=(1,), cells=(0, 1, 3)), "cell", 1)
        self.refused(COUNTER, Plan(known=(1,), cells=(0, 1, 3, 6)), "cell", 1)
        self.refused(COUNTER, Plan(known=(1,), cells=(-2, 0, 1, 3)), "cell", -2)
        self.refused((), Plan(cells=(0,)), "cell", 0)

    def test_lacks(self):
        for cells, at in (((), 0), ((0,), 3), ((3,), 0), ((1, 2, 4, 5), 0), ((0, 1, 2, 4, 5), 3)):
            self.refused(COUNTER, Plan(cells=cells), "lacks", at)
        self.refused(COUNTER, Plan(known=(1,), cells=(0,)), "lacks", 3)

    def test_the_first_of_the_three(self):
        self.refused(COUNTER, Plan(known=(2,), cells=(-1,)), "known", 2)
        self.refused(COUNTER, Plan(known=(2,), cells=()), "known", 2)
        self.refused(COUNTER, Plan(known=(1, 9), cells=(1, 6)), "known", 9)
        self.refused(COUNTER, Plan(cells=(6,)), "cell", 6)
        self.refused(COUNTER, Plan(known=(1,), cells=(1,)), "cell", 1)
        self.refused(COUNTER, Plan(cells=(3, 6)), "cell", 6)

    def test_by_its_known_bodies(self):
        """What need not lie in a cell where a body is known must where it isn't."""
        program = rows("let a 1", "fn f", "tell a", "end", "set a 2", "call x f")
        self.refused(program, Plan(), "lacks", 0)
        self.assertIs(look_plan(program, Plan(known=(1,))), True)
        self.assertIs(look_plan(program, Plan(known=(1,), cells=(0, 2))), True)
        self.refused(program, Plan(known=(1,), cells=(0, 1)), "cell", 1)

    def test_each_least_cell_left_out(self):
        """Point 3: one left out, and no plan holds; more kept, and one does."""
        chance = random.Random(22)
        many = 0
        for at, program in enumerate(lively_programs(60)):
            spelled = Spelled(program)
            for known in knowns(program, at):
                slow = Known(spelled, known)
                least = least_cells(program, known=known)
                free = [m for m in range(len(spelled.makings)) if m not in slow.names and m not in least]
                some = [m for m in free if chance.randrange(2)]
                for more in ([], some, free):
                    full = tuple(sorted([*least, *more]))
                    self.assertIs(look_plan(program, Plan(known=known, cells=full)), True)
                    for m in least:
                        left = tuple(other for other in full if other != m)
                        self.refused(program, Plan(known=known, cells=left), "lacks", m)
                        many += 1
        self.assertGreater(many, 500)

    def test_any_numbers(self):
        """Drawn plans against the words of the point."""
        chance = random.Random(23)
        found = set()
        for program in lively_programs(60) + [()]:
            spelled = Spelled(program)
            may = may_be_known(program)
            for _ in range(12):
                known = tuple(body for body in may if chance.randrange(2))
                if not chance.randrange(6):
                    known = tuple(sorted({*known, chance.randrange(-2, len(spelled.bodies) + 2)}))
                numbers = range(-1, len(spelled.makings) + 1)
                cells = tuple(m for m in numbers if chance.randrange(12 if m in (-1, numbers[-1]) else 30) == 0)
                cells = tuple(sorted({*cells, *(least_cells(program) if chance.randrange(2) else ())}))
                wanted = self.due(spelled, may, known, cells)
                found.add(wanted and wanted[0])
                if wanted is None:
                    self.assertIs(look_plan(program, Plan(known=known, cells=cells)), True)
                else:
                    self.refused(program, Plan(known=known, cells=cells), *wanted)
        self.assertEqual(found, {None, "known", "cell", "lacks"})

    def due(self, spelled, may, known, cells):
        for body in known:
            if body not in may:
                return ("known", body)
        slow = Known(spelled, known)
        for m in cells:
            if m not in range(len(spelled.makings)) or m in slow.names:
                return ("cell", m)
        for m in range(len(spelled.makings)):
            if slow.must(m) and m not in cells:
                return ("lacks", m)
        return None


class Ways(unittest.TestCase):
    def test_linked(self):
        for program in ((), COUNTER):
            self.assertIsNone(plan_of(program, LINKED))

    def test_no_statements(self):
        for way in (COPIED, CELLED, HANDED):
            self.assertEqual(plan_of((), way), Plan())

    def test_each(self):
        self.assertEqual(plan_of(COUNTER, COPIED), Plan(cells=(0, 3)))
        self.assertEqual(plan_of(COUNTER, CELLED), Plan(cells=(0, 3)))
        self.assertEqual(plan_of(COUNTER, HANDED), Plan(known=(1,), cells=(0, 3)))
        program = rows("let a 1", "let b 2", "fn f", "tell a", "tell b", "end", "set a 2", "call x f")
        self.assertEqual(plan_of(program, COPIED), Plan(cells=(0,)))
        self.assertEqual(plan_of(program, CELLED), Plan(cells=(0, 1)))
        self.assertEqual(plan_of(program, HANDED), Plan(known=(1,)))

    def test_names_of_bodies_in_the_celled_way(self):
        """Nothing is known there, so a name that some body needs is a cell, also one that is only called."""
        program = rows("fn f", "end", "fn g", "call x f", "end", "call y g")
        self.assertEqual(plan_of(program, CELLED), Plan(cells=(0,)))
        self.assertEqual(plan_of(program, COPIED), Plan())
        self.assertEqual(plan_of(program, HANDED), Plan(known=(1, 2)))

    def test_none_may_be_known(self):
        program = rows("let n 1", "fn f", "set n 2", "end", "let g f")
        self.assertEqual(plan_of(program, HANDED), Plan(cells=(0,)))
        self.assertEqual(plan_of(program, HANDED), plan_of(program, COPIED))

    def test_against_the_points(self):
        for program in sound_programs(40) + lively_programs(40):
            needed = sorted({m for told in needs(program).values() for m in told})
            self.assertEqual(plan_of(program, COPIED), Plan(cells=least_cells(program)))
            self.assertEqual(plan_of(program, CELLED), Plan(cells=tuple(needed)))
            self.assertEqual(plan_of(program, CELLED).cells, shared(program))
            may = may_be_known(program)
            self.assertEqual(plan_of(program, HANDED), Plan(known=may, cells=least_cells(program, known=may)))
            for way in (COPIED, CELLED, HANDED):
                self.assertIs(look_plan(program, plan_of(program, way)), True)

    def test_more_known_need_fewer_cells(self):
        """Point 23, along rising sets of known bodies; and what known ones may pack is among what they need."""
        fewer = 0
        for at, program in enumerate(lively_programs(80)):
            may = list(may_be_known(program))
            random.Random(at).shuffle(may)
            ahead = None
            for many in range(len(may) + 1):
                known = tuple(sorted(may[:many]))
                cells = set(least_cells(program, known=known))
                if ahead is not None:
                    self.assertLessEqual(cells, ahead)
                    fewer += cells < ahead
                ahead = cells
                needed = needs(program, known=known)
                for body, packed in packs(program, known=known).items():
                    self.assertLessEqual(set(packed), set(needed[body]))
        self.assertGreater(fewer, 10)


class AskersOwn(unittest.TestCase):
    def test_told_again(self):
        others = lively_programs(5, first=900)
        for program in lively_programs(10):
            kept = copy.deepcopy(program)
            before = [plan_of(program, way) for way in WAYS]
            changed = [plan_of(program, way) for way in WAYS[1:]]
            for plan in changed:
                plan.known, plan.cells = (77,), (88,)
            for other in others:
                for way in WAYS:
                    plan_of(other, way)
            self.assertEqual([plan_of(program, way) for way in WAYS], before)
            self.assertEqual(program, kept)

    def test_plans_are_left_as_they_were(self):
        plan = Plan(known=(1,), cells=(0, 3))
        look_plan(COUNTER, plan)
        self.assertEqual(plan, Plan(known=(1,), cells=(0, 3)))
        plan = Plan(known=(5,), cells=(-1,))
        with self.assertRaises(NoPlan):
            look_plan(COUNTER, plan)
        self.assertEqual(plan, Plan(known=(5,), cells=(-1,)))

    def test_kinds(self):
        for program in lively_programs(10):
            for way in WAYS[1:]:
                plan = plan_of(program, way)
                self.assertIs(plan.__class__, Plan)
                self.assertEqual((plan.known.__class__, plan.cells.__class__), (tuple, tuple))
                self.assertEqual((plan.known, plan.cells), (tuple(sorted(plan.known)), tuple(sorted(plan.cells))))


if __name__ == "__main__":
    unittest.main()
