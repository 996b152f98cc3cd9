"""Bills: what each mark costs, with linked rooms and by plans (points 3, 30)."""

import copy
import unittest

from fourbind.bills import bill
from fourbind.machine import Machine
from fourbind.plans import COPIED, HANDED, Plan, plan_of
from samples import FORMS, holding_plans, lacking_plans, lively_programs, rows, sound_programs
from spelled import Spelled
from spelled_runs import LinkedRun, PackedRun, bill_marks

# n, a, f, x, b, c, i, g: a while and a times "own" with rooms.
LOOPS = rows(
    "let n 2", "while n", "let a n", "fn f", "let x a + n", "set n x", "end", "call b f", "if b", "let c a", "else",
    "end", "end", "times own i n", "fn g", "give i", "end", "end",
)

PARTS = ("hops", "opens", "copies", "cells", "packs", "rooms")


class Bills(unittest.TestCase):
    def costs(self, program, plan, **wanted):
        """Wanted are the marks that cost something, as do_3=(..parts and numbers..): all others cost nothing."""
        told = bill(program, plan=plan)
        self.assertIs(told.__class__, dict)
        self.assertEqual(set(told), bill_marks(Spelled(program)))
        found = {}
        for (word, at), cost in told.items():
            self.assertEqual((cost.__class__, len(cost)), (tuple, 6))
            self.assertTrue(all(number.__class__ is int for number in cost))
            parts = {part: number for part, number in zip(PARTS, cost) if number}
            if parts:
                found[f"{word}_{at}"] = parts
        self.assertEqual(found, wanted)


class Linked(Bills):
    def test_no_statements(self):
        self.assertEqual(bill(()), {("in", 0): (0, 0, 0, 0, 0, 1)})

    def test_each_form(self):
        self.costs(FORMS, None, in_0={"rooms": 1}, do_1={"packs": 1}, in_1={"rooms": 1}, do_2={"hops": 1},
                   do_3={"hops": 1})

    def test_rooms_of_loops(self):
        self.costs(
            LOOPS, None, in_0={"rooms": 1}, in_1={"rooms": 1}, do_2={"hops": 1}, do_3={"packs": 1}, in_2={"rooms": 1},
            do_4={"hops": 3}, do_5={"hops": 2}, in_5={"rooms": 1}, do_10={"packs": 1}, in_6={"rooms": 1},
            do_11={"hops": 1},
        )

    def test_rooms_of_heads(self):
        program = rows("while 1", "times one i 3", "let a i", "fn f", "let x a + i", "end", "set i a", "end", "end")
        self.costs(
            program, None, in_0={"rooms": 1}, in_2={"rooms": 1}, in_3={"rooms": 1}, do_2={"hops": 1},
            do_3={"packs": 1}, in_4={"rooms": 1}, do_4={"hops": 3}, do_5={"hops": 1},
        )

    def test_calls(self):
        program = rows("let a 1", "fn f p q", "call x f a p", "end", "fn g", "fn h", "call y f a 3", "end", "end")
        self.costs(
            program, None, in_0={"rooms": 1}, do_1={"packs": 1}, in_1={"rooms": 1}, do_2={"hops": 2},
            do_3={"packs": 1}, in_2={"rooms": 1}, do_4={"packs": 1}, in_3={"rooms": 1}, do_5={"hops": 4},
        )


class ByPlans(Bills):
    def test_no_statements(self):
        self.assertEqual(bill((), plan=Plan()), {("in", 0): (0, 0, 0, 0, 0, 0)})

    def test_least_cells(self):
        self.costs(
            FORMS, Plan(cells=(0,)), do_0={"cells": 1}, do_1={"copies": 1, "packs": 1}, do_6={"opens": 1},
            do_10={"opens": 1}, do_11={"opens": 1}, do_2={"opens": 1}, do_3={"opens": 1},
        )

    def test_fewer_cells(self):
        self.costs(FORMS, Plan(), do_1={"copies": 1, "packs": 1})

    def test_known(self):
        self.costs(
            FORMS, Plan(known=(1,), cells=(0,)), do_0={"cells": 1}, do_6={"opens": 1, "copies": 1}, do_10={"opens": 1},
            do_11={"opens": 1}, do_2={"opens": 1}, do_3={"opens": 1},
        )

    def test_all_cells(self):
        self.costs(
            FORMS, Plan(cells=tuple(range(9))), do_0={"cells": 1}, do_1={"copies": 1, "cells": 1, "packs": 1},
            do_6={"opens": 2}, back_6={"cells": 1}, do_7={"opens": 1}, do_8={"opens": 1, "cells": 1},
            do_10={"opens": 1}, do_11={"opens": 1}, in_5={"cells": 1}, do_13={"opens": 1}, do_14={"opens": 1},
            in_6={"cells": 1}, do_15={"opens": 1}, step_14={"opens": 2}, in_1={"cells": 2},
            do_2={"opens": 2, "cells": 1}, do_3={"opens": 2}, do_4={"opens": 1}, do_5={"opens": 1},
        )

    def test_one_making_used_twice(self):
        program = rows("let a 1", "let b a * a", "set a a", "fn f p", "end", "call x f a a")
        self.costs(program, Plan(cells=(0,)), do_0={"cells": 1}, do_1={"opens": 2}, do_2={"opens": 2},
                   do_3={"packs": 1}, do_4={"opens": 2})

    def test_own_name(self):
        """Where it lies in no cell it isn't copied."""
        program = rows("let a 1", "fn f", "call x f a", "end")
        self.costs(program, Plan(), do_1={"copies": 1, "packs": 1})
        self.costs(program, Plan(cells=(1,)), do_1={"copies": 2, "cells": 1, "packs": 1}, do_2={"opens": 1})
        self.costs(program, Plan(known=(1,)), do_2={"copies": 1})

    def test_handed_more_than_it_uses(self):
        program = rows("let a 1", "let b 2", "fn f", "tell a", "end", "fn g", "call x f", "tell b", "end", "call y g")
        self.costs(program, plan_of(program, HANDED), do_5={"copies": 1}, do_7={"copies": 2})
        self.costs(program, plan_of(program, COPIED), do_2={"copies": 1, "packs": 1}, do_4={"copies": 2, "packs": 1})
        self.costs(program, Plan(known=(1,)), do_4={"copies": 2, "packs": 1}, do_5={"copies": 1})

    def test_x_of_times(self):
        program = rows("times own i 2", "end", "times one j 2", "end")
        self.costs(program, Plan(cells=(0, 1)), in_1={"cells": 1}, in_2={"cells": 1}, step_1={"opens": 2})
        self.costs(program, Plan())


class Sums(Bills):
    def test_costs_mark_by_mark(self):
        """The sum over the marks done, ahead of the first, at each, at the end and behind it."""
        for at, program in enumerate([(), FORMS, LOOPS, *lively_programs(25)]):
            for plan in holding_plans(program, at) + lacking_plans(program, at):
                prices, machine = bill(program, plan=plan), Machine(program, plan=plan)
                sums = (0,) * 6
                while machine.mark() is not None and len(machine) < 120:
                    self.assertEqual(machine.costs(), sums)
                    sums = tuple(ahead + more for ahead, more in zip(sums, prices[machine.mark()]))
                    machine.turn()
                self.assertEqual(machine.costs(), sums)
                if machine.mark() is None:
                    machine.turn()
                    self.assertEqual(machine.costs(), sums)

    def test_what_is_done_is_what_is_billed(self):
        """A second spelling counts hops, opens, copies, cells, packs and rooms as it does them."""
        spent = [0] * 6
        for at, program in enumerate(sound_programs(40) + lively_programs(60, first=300)):
            spelled = Spelled(program)
            for plan in holding_plans(program, at) + lacking_plans(program, at)[:2]:
                run = LinkedRun(spelled) if plan is None else PackedRun(spelled, plan.known, plan.cells)
                prices, last, before = bill(program, plan=plan), None, [0] * 6
                for turn, mark in enumerate(run.go()):
                    if last is not None:
                        done = tuple(now - ahead for now, ahead in zip(run.counts, before))
                        self.assertEqual(done, prices[last], (plan, last))
                    last, before = mark, list(run.counts)
                    if turn == 100:
                        break
                spent = [ahead + more for ahead, more in zip(spent, run.counts)]
        self.assertTrue(all(number > 200 for number in spent), spent)

    def test_more_known_need_no_more_packs(self):
        for at, program in enumerate(lively_programs(40)):
            for known in sorted({plan.known for plan in holding_plans(program, at)[1:]}):
                few, more = bill(program, plan=Plan()), bill(program, plan=Plan(known=known))
                for mark in few:
                    self.assertLessEqual(more[mark][4], few[mark][4])


class AskersOwn(unittest.TestCase):
    def test_dicts_emptied(self):
        for at, program in enumerate(lively_programs(8)):
            kept = copy.deepcopy(program)
            for plan in holding_plans(program, at):
                before, told = bill(program, plan=plan), bill(program, plan=plan)
                told.clear()
                told[("do", 0)] = (9,) * 6
                self.assertEqual(bill(program, plan=plan), before)
                machine = Machine(program, plan=plan)
                machine.turn()
                self.assertEqual(machine.costs(), before[("in", 0)])
            self.assertEqual(program, kept)


if __name__ == "__main__":
    unittest.main()
