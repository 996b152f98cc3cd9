"""Rows that copy, makings that must lie in cells, papers (points 20, 21)."""

import copy
import itertools
import random
import unittest

from fourbind.cells import copying, least_cells, paper_holds, why_cell
from fourbind.flow import makes, rows_of, sets
from fourbind.known import may_be_known
from fourbind.needs import needs
from fourbind.plain import Plain
from samples import knowns, rows, sound_programs, spoiled
from spelled import Known, Spelled


class Cells(unittest.TestCase):
    def cells(self, program, wanted, known=()):
        """Looks at the least cells, and that there is a paper that holds of just these."""
        told = least_cells(program, known=known)
        self.assertEqual(told, wanted)
        self.assertIs(told.__class__, tuple)
        for m in range(len(Spelled(program).makings)):
            paper = why_cell(program, m, known=known)
            self.assertEqual(paper is not None, m in wanted, m)
            if paper is not None:
                self.assertIs(paper_holds(program, m, paper, known=known), True)
                self.assertIn(paper[0], ("within", "behind"))
                self.assertIs(paper.__class__, tuple)
                self.assertIs(paper[1].__class__, int if paper[0] == "within" else tuple)

    def copied(self, program, m, wanted, known=()):
        """Looks at the rows that copy m, wanted by their marks."""
        told = copying(program, m, known=known)
        self.assertIs(told.__class__, list)
        table = rows_of(program, Spelled(program).body_of_making(m))
        self.assertEqual([f"{table[at][0][0]} {table[at][0][1]}" for at in told], wanted)
        self.assertEqual(told, sorted(told))

    def papers(self, program, m, holding, failing, known=()):
        for paper in holding:
            self.assertIs(paper_holds(program, m, paper, known=known), True, paper)
        for paper in failing:
            self.assertIs(paper_holds(program, m, paper, known=known), False, paper)


class Copying(Cells):
    def test_fns_of_bodies_that_need_it(self):
        program = rows(
            "let a 1", "let b 2", "fn f", "tell a", "end", "while 1", "fn g", "tell b", "tell a", "end", "end", "fn h",
            "end",
        )
        self.copied(program, 0, ["do 2", "do 5"])
        self.copied(program, 1, ["do 5"])
        self.copied(program, 2, [])
        self.copied(program, 0, ["do 2"], known=(2,))
        self.copied(program, 0, [], known=(1, 2))

    def test_in_the_body_in_which_it_is_made(self):
        """Fns within other bodies are no rows of this one; but the fn around them needs what they need."""
        program = rows("let a 1", "fn f p", "fn g", "let x a + p", "end", "end")
        # a, f, p, g, x
        self.copied(program, 0, ["do 1"])
        self.copied(program, 2, ["do 2"])

    def test_calls_of_known_ones_that_may_pack_it(self):
        program = rows("let a 1", "fn f", "fn g", "tell a", "end", "give g", "end", "call x f", "fn h", "tell a", "end",
                       "call y h")
        self.copied(program, 0, ["do 1", "do 6"])
        self.copied(program, 0, ["do 5", "do 6"], known=(1,))
        self.copied(program, 0, ["do 5"], known=(1, 3))
        self.copied(program, 0, ["do 1"], known=(3,))

    def test_own_name(self):
        program = rows("fn f", "call x f", "end")
        self.copied(program, 0, ["do 0"])
        self.copied(program, 0, [], known=(1,))

    def test_against_spelled(self):
        some = 0
        for at, program in enumerate(sound_programs(50)):
            spelled = Spelled(program)
            for known in knowns(program, at):
                slow = Known(spelled, known)
                for m in range(len(spelled.makings)):
                    wanted = [row for row, (mark, goals) in enumerate(slow.rows(m)) if slow.copies(mark, m)]
                    self.assertEqual(copying(program, m, known=known), wanted)
                    some += bool(wanted)
        self.assertGreater(some, 100)


class Within(Cells):
    def test_a_set_in_another_body(self):
        program = rows("let a 1", "fn f", "set a 2", "end", "call x f")
        self.cells(program, (0,))
        self.cells(program, (0,), known=(1,))
        self.assertEqual(why_cell(program, 0), ("within", 2))
        self.papers(program, 0, [("within", 2)], [("within", k) for k in (-4, -2, -1, 0, 1, 3, 4, 10 ** 20, -10 ** 20)])

    def test_of_params_calls_and_rounds(self):
        program = rows("fn f p", "fn g", "set p 1", "end", "end")
        self.cells(program, (1,))
        program = rows(
            "fn f", "end", "call x f", "times own i 2", "times one j 2", "fn g", "set x 1", "set i 2", "set j 3", "end",
            "end", "end",
        )
        # f, x, i, j, g
        self.cells(program, (1, 2, 3))
        self.cells(program, (1, 2, 3), known=(1, 2))

    def test_of_a_fn(self):
        program = rows("fn f", "set f 1", "end")
        self.cells(program, (0,))
        self.papers(program, 0, [("within", 1)], [("within", 0)])

    def test_another_making_of_that_name(self):
        program = rows("let a 1", "fn f", "let a 2", "set a 3", "end")
        self.cells(program, ())
        self.papers(program, 0, [], [("within", 3)])
        self.papers(program, 2, [], [("within", 3)])

    def test_a_use_is_no_set(self):
        program = rows("let a 1", "let b 1", "fn f", "set b a", "end")
        self.cells(program, (1,))
        self.papers(program, 0, [], [("within", 3)])

    def test_a_set_to_which_nothing_leads(self):
        self.cells(rows("let a 1", "fn f", "give 1", "set a 2", "end"), (0,))


class Behind(Cells):
    def test_a_copy_and_a_set_behind_it(self):
        program = rows("let a 1", "fn f", "tell a", "end", "set a 2", "call x f")
        # 0 in 0, 1 do 0, 2 do 1, 3 do 3, 4 do 4, 5 back 4
        self.cells(program, (0,))
        self.assertEqual(why_cell(program, 0), ("behind", (2, 3)))
        self.papers(program, 0, [("behind", (2, 3))], [
            ("behind", ()), ("behind", (2,)), ("behind", (3,)), ("behind", (1, 2, 3)), ("behind", (2, 3, 4)),
            ("behind", (2, 2, 3)), ("behind", (2, 4)), ("behind", (1, 3)), ("behind", (2, -3)), ("behind", (-4, 3)),
            ("behind", (2, 6)), ("behind", (10 ** 20, 3)), ("within", 3), ("within", 2),
        ])
        self.cells(program, (), known=(1,))
        self.papers(program, 0, [], [("behind", (2, 3)), ("behind", (4, 3))], known=(1,))

    def test_a_set_ahead_of_the_copy_alone(self):
        program = rows("let a 1", "set a 2", "fn f", "tell a", "end", "call x f")
        self.cells(program, ())
        self.papers(program, 0, [], [("behind", (3, 2)), ("behind", (2, 3)), ("within", 1)])

    def test_through_rounds(self):
        for start, extra in (("while 1", 0), ("times own i 3", 1), ("times one i 3", 1)):
            program = rows("let a 1", start, "set a 2", "fn f", "tell a", "end", "end")
            self.cells(program, (0,))
            word, road = why_cell(program, 0)
            table = rows_of(program, 0)
            self.assertEqual((word, table[road[0]][0], table[road[-1]][0]), ("behind", ("do", 3), ("do", 2)))

    def test_made_anew_on_the_road(self):
        """In each round it is made ahead of its set, so no copy is behind."""
        program = rows("while 1", "let a 1", "set a 2", "fn f", "tell a", "end", "end")
        self.cells(program, ())
        # 0 in 0, 1 do 0, 2 in 1, 3 do 1, 4 do 2, 5 do 3
        self.papers(program, 0, [], [("behind", (5, 1, 2, 3, 4))])
        program = rows("times own i 3", "set i 2", "fn f", "tell i", "end", "end")
        self.cells(program, ())
        self.papers(program, 0, [], [("behind", (4, 5, 2, 3))])

    def test_steps_of_a_one_set_its_x(self):
        program = rows("times one i 3", "fn f", "tell i", "end", "end")
        # 0 in 0, 1 do 0, 2 in 1, 3 in 2, 4 do 1, 5 step 0
        self.cells(program, (0,))
        self.papers(program, 0, [("behind", (4, 5)), ("behind", (4, 5, 3, 4, 5))], [
            ("behind", (4, 5, 3)), ("behind", (3, 4, 5)), ("behind", (4,)), ("behind", (5,)),
        ])
        self.cells(rows("times own i 3", "fn f", "tell i", "end", "end"), ())
        self.cells(program, (), known=(1,))

    def test_a_one_within_a_loop(self):
        """Its head makes it anew in each round of the loop around; its own steps set it."""
        program = rows("while 1", "times one i 3", "end", "fn f", "end", "end")
        self.cells(program, ())
        self.cells(rows("times one i 3", "give 1", "fn f", "tell i", "end", "end"), ())
        self.cells(rows("times one i 3", "fn f", "tell i", "end", "give 1", "end"), ())

    def test_a_copy_to_which_no_road_leads(self):
        program = rows("let a 1", "give a", "fn f", "tell a", "end", "set a 2")
        # 0 in 0, 1 do 0, 2 do 1, 3 do 2, 4 do 4
        self.copied(program, 0, ["do 2"])
        self.cells(program, ())
        self.papers(program, 0, [], [("behind", (3, 4))])

    def test_a_give_between(self):
        self.cells(rows("let a 1", "fn f", "tell a", "end", "give 1", "set a 2"), ())
        self.cells(rows("let a 1", "fn f", "tell a", "end", "if a", "give 1", "else", "end", "set a 2"), (0,))
        self.cells(rows("let a 1", "if a", "fn f", "tell a", "end", "else", "set a 2", "end"), ())

    def test_own_name(self):
        """The fn makes it and copies it at once: the first row of a road may make it."""
        program = rows("fn f", "call x f", "end", "set f 2")
        self.cells(program, (0,))
        self.papers(program, 0, [("behind", (1, 2))], [])
        program = rows("while 1", "fn f", "call x f", "end", "set f 2", "end")
        self.cells(program, (0,))
        self.papers(program, 0, [("behind", (3, 4))], [("behind", (3, 4, 1, 2, 3, 4)), ("behind", (3, 4, 1, 2, 3))])

    def test_along_calls_of_known_ones(self):
        program = rows("let a 1", "fn f", "fn g", "tell a", "end", "give g", "end", "set a 2", "call x f", "set a 3",
                       "call y x")
        # 0 in 0, 1 do 0, 2 do 1, 3 do 5, 4 do 6, 5 back 6, 6 do 7
        self.cells(program, (0,))
        self.papers(program, 0, [("behind", (2, 3)), ("behind", (2, 3, 4, 5, 6))], [("behind", (4, 5, 6))])
        self.cells(program, (0,), known=(1,))
        self.papers(program, 0, [("behind", (4, 5, 6))], [("behind", (2, 3)), ("behind", (2, 3, 4, 5, 6))], known=(1,))

    def test_known_ones_that_only_use_it(self):
        program = rows("let a 1", "fn f", "tell a", "end", "call x f", "set a 2", "call y f")
        self.cells(program, (0,))
        self.cells(program, (), known=(1,))

    def test_known_names_need_no_cell(self):
        program = rows("fn k", "end", "fn f", "call x k", "end", "let g f")
        self.assertEqual(may_be_known(program), (1,))
        for m in range(4):
            self.assertIsNone(why_cell(program, m, known=(1,)))
        self.papers(program, 0, [], [("behind", (2, 3)), ("within", 2)], known=(1,))


class Against(Cells):
    def test_least_cells(self):
        found = set()
        for at, program in enumerate(sound_programs(60)):
            spelled = Spelled(program)
            for known in knowns(program, at):
                slow = Known(spelled, known)
                must = tuple(m for m in range(len(spelled.makings)) if slow.must(m))
                self.cells(program, must, known=known)
                found |= {(why_cell(program, m, known=known)[0], bool(known)) for m in must}
        self.assertEqual(found, {("within", False), ("behind", False), ("within", True), ("behind", True)})

    def test_papers_with_a_number_otherwise(self):
        chance = random.Random(21)
        held = 0
        for at, program in enumerate(sound_programs(150)):
            spelled = Spelled(program)
            for known in knowns(program, at):
                slow = Known(spelled, known)
                for m in least_cells(program, known=known):
                    word, thing = why_cell(program, m, known=known)
                    if word == "behind":
                        others = spoiled(chance, thing, len(slow.rows(m)))
                    else:
                        others = [thing + 1, thing - 1, chance.randrange(len(spelled.nodes))]
                    for other in [thing, *others]:
                        holds = slow.is_paper(m, (word, other))
                        held += holds
                        self.assertIs(paper_holds(program, m, (word, other), known=known), holds)
        self.assertGreater(held, 300)

    def test_all_short_papers(self):
        for at, program in enumerate(sound_programs(16, first=300)):
            spelled = Spelled(program)
            known = may_be_known(program) if at % 2 else ()
            slow = Known(spelled, known)
            for m in range(0, len(spelled.makings), 4):
                for k in range(-2, len(spelled.nodes) + 2):
                    paper = ("within", k)
                    self.assertIs(paper_holds(program, m, paper, known=known), slow.is_paper(m, paper))
                numbers = range(-1, min(8, len(slow.rows(m)) + 1))
                for road in itertools.chain([()], itertools.product(numbers), itertools.product(numbers, repeat=2)):
                    paper = ("behind", road)
                    self.assertIs(paper_holds(program, m, paper, known=known), slow.is_paper(m, paper))

    def test_more_known_need_no_more_cells(self):
        """Point 23."""
        for at, program in enumerate(sound_programs(100)):
            few, *more = sorted(knowns(program, at), key=len)
            for known in more:
                self.assertLessEqual(set(least_cells(program, known=known)), set(least_cells(program, known=few)))


class InRuns(unittest.TestCase):
    def test_no_copy_is_behind_in_plain_runs(self):
        """What need not lie in a cell is never set once a body was made that has a copy of it."""
        late = set()
        for program in sound_programs(300):
            spelled = Spelled(program)
            needed, cells = needs(program), least_cells(program)
            reading, copied = Plain(program), set()
            while reading.mark() is not None and len(reading) < 300:
                mark = reading.mark()
                m = sets(program, mark)
                if m is not None and (m, reading.whose(m)) in copied:
                    self.assertIn(m, cells)
                    late.add((m, len(reading)))
                node = spelled.nodes[mark[1]] if mark[0] == "do" else None
                wanted = needed[node.new_body] if node is not None and node.word == "fn" else ()
                seen = [(thing, reading.whose(thing)) for thing in wanted if thing not in makes(program, mark)]
                reading.turn()
                copied |= set(seen)
        self.assertGreater(len(late), 20)


class AskersOwn(unittest.TestCase):
    def test_lists_emptied(self):
        for program in sound_programs(20):
            kept = copy.deepcopy(program)
            for m in range(len(Spelled(program).makings)):
                before = copying(program, m)
                told = copying(program, m)
                told.append(7)
                least_cells(program, known=may_be_known(program))
                self.assertEqual(copying(program, m), before)
                told.clear()
                self.assertEqual(copying(program, m), before)
                self.assertEqual(why_cell(program, m), why_cell(program, m))
            self.assertEqual(least_cells(program), least_cells(program))
            self.assertEqual(program, kept)


if __name__ == "__main__":
    unittest.main()
