"""Rows, goals, roads, what a mark makes and sets (points 14, 15)."""

import copy
import random
import unittest

from fourbind.flow import makes, road_holds, rows_of, sets
from fourbind.plain import plain_run
from samples import rows, sample_programs, sound_programs
from spelled import Rows, Spelled, row_makes, row_sets


def rows_by(*texts):
    """Rows as `do 3: 4 end`: the mark, and behind the colon the goals, `end` for None."""
    found = []
    for text in texts:
        mark, _, goals = text.partition(":")
        word, number = mark.split(" ")
        found.append(((word, int(number)), tuple(None if goal == "end" else int(goal) for goal in goals.split())))
    return found


class RowsOf(unittest.TestCase):
    def has(self, program, body, *wanted):
        told = rows_of(program, body)
        self.assertEqual(told, rows_by(*wanted))
        self.assertIs(told.__class__, list)
        for row in told:
            self.assertEqual([row.__class__, row[0].__class__, row[1].__class__], [tuple] * 3)

    def test_no_statements(self):
        self.has((), 0, "in 0: end")
        self.has(rows("fn f p", "end"), 1, "in 1: end")

    def test_without_blocks(self):
        for row in ("let x 1", "let x 1 + 2", "tell 1"):
            self.has(rows(row), 0, "in 0: 1", "do 0: end")
            self.has(rows(row, "tell 2"), 0, "in 0: 1", "do 0: 2", "do 1: end")
        self.has(rows("let x 1", "set x 2", "tell x"), 0, "in 0: 1", "do 0: 2", "do 1: 3", "do 2: end")

    def test_give(self):
        self.has(rows("give 1"), 0, "in 0: 1", "do 0:")
        self.has(rows("tell 1", "give 1", "tell 2", "give 2"), 0, "in 0: 1", "do 0: 2", "do 1:", "do 2: 4", "do 3:")

    def test_call(self):
        program = rows("fn f", "end", "call x f", "call y f")
        self.has(program, 0, "in 0: 1", "do 0: 2", "do 1: 3", "back 1: 4", "do 2: 5", "back 2: end")

    def test_fns_have_rows_of_their_own(self):
        program = rows("fn f", "tell 1", "fn g", "give 2", "end", "tell 3", "end", "tell 4")
        self.has(program, 0, "in 0: 1", "do 0: 2", "do 5: end")
        self.has(program, 1, "in 1: 1", "do 1: 2", "do 2: 3", "do 4: end")
        self.has(program, 2, "in 2: 1", "do 3:")

    def test_if(self):
        program = rows("if 1", "tell 1", "else", "tell 2", "tell 3", "end", "tell 4")
        self.has(program, 0, "in 0: 1", "do 0: 2 4", "in 1: 3", "do 1: 7", "in 2: 5", "do 2: 6", "do 3: 7", "do 4: end")
        self.has(rows("if 1", "else", "end"), 0, "in 0: 1", "do 0: 2 3", "in 1: end", "in 2: end")
        self.has(rows("if 1", "give 1", "else", "end", "tell 2"), 0, "in 0: 1", "do 0: 2 4", "in 1: 3", "do 1:",
                 "in 2: 5", "do 2: end")

    def test_while(self):
        program = rows("while 1", "tell 1", "end", "tell 2")
        self.has(program, 0, "in 0: 1", "do 0: 2 4", "in 1: 3", "do 1: 1", "do 2: end")
        self.has(rows("while 1", "end"), 0, "in 0: 1", "do 0: 2 end", "in 1: 1")

    def test_times_own(self):
        program = rows("times own i 2", "tell i", "end", "tell 2")
        self.has(program, 0, "in 0: 1", "do 0: 2 5", "in 1: 3", "do 1: 4", "step 0: 2 5", "do 2: end")
        self.has(rows("times own i 2", "end"), 0, "in 0: 1", "do 0: 2 end", "in 1: 3", "step 0: 2 end")

    def test_times_one(self):
        program = rows("times one i 2", "tell i", "end", "tell 2")
        self.has(program, 0, "in 0: 1", "do 0: 2", "in 1: 3 6", "in 2: 4", "do 1: 5", "step 0: 3 6", "do 2: end")
        self.has(rows("times one i 2", "end"), 0, "in 0: 1", "do 0: 2", "in 1: 3 end", "in 2: 4", "step 0: 3 end")

    def test_blocks_at_the_end_of_blocks(self):
        program = rows("while 1", "if 1", "times own i 2", "end", "else", "while 2", "end", "end", "end")
        self.has(
            program, 0, "in 0: 1", "do 0: 2 end", "in 1: 3", "do 1: 4 8", "in 2: 5", "do 2: 6 1", "in 3: 7",
            "step 2: 6 1", "in 4: 9", "do 3: 10 1", "in 5: 9",
        )

    def test_blocks_at_the_end_of_rounds_and_bodies(self):
        program = rows("fn f", "times one i 2", "if i", "give 1", "else", "end", "end", "end")
        self.has(
            program, 1, "in 1: 1", "do 1: 2", "in 2: 3 end", "in 3: 4", "do 2: 5 7", "in 4: 6", "do 3:", "in 5: 8",
            "step 1: 3 end",
        )

    def test_fns_and_calls_within_rounds(self):
        program = rows("times own i 2", "fn f", "tell i", "end", "call x f", "end")
        self.has(program, 0, "in 0: 1", "do 0: 2 end", "in 1: 3", "do 1: 4", "do 3: 5", "back 3: 6", "step 0: 2 end")
        self.has(program, 1, "in 2: 1", "do 2: end")

    def test_against_spelled(self):
        for program in sample_programs(200) + sound_programs(200):
            spelled = Spelled(program)
            for body in range(len(spelled.bodies)):
                self.assertEqual(rows_of(program, body), Rows(spelled, body).told())

    def test_beyond_the_bounds(self):
        block = (("tell", 1),)
        for _ in range(240):
            block = (("times", "one", "i", 1, block),)
        told = rows_of(block, 0)
        self.assertEqual(len(told), 1 + 4 * 240 + 1)
        self.assertEqual(told[-1], (("step", 0), (3, None)))


def calls_in(marks, spelled):
    """The marks of each call of a run, as (body, marks), those of the bodies called within left out."""
    found, pile = [], []
    for mark in marks:
        word, at = mark
        if word == "in" and spelled.grounds[at][0] == "body":
            pile.append((spelled.body_grounds.index(at), []))
            found.append(pile[-1])
        elif word == "back":
            pile.pop()
        pile[-1][1].append(mark)
    return found


class Roads(unittest.TestCase):
    def test_marks_of_each_call_are_a_road(self):
        calls = 0
        for program in sound_programs(200):
            spelled = Spelled(program)
            tables = [rows_of(program, body) for body in range(len(spelled.bodies))]
            for body, marks in calls_in(plain_run(program)[1], spelled):
                numbers = [[mark for mark, goals in tables[body]].index(mark) for mark in marks]
                self.assertEqual(numbers[0], 0)
                for ahead, behind in zip(numbers, numbers[1:]):
                    self.assertIn(behind, tables[body][ahead][1])
                self.assertIs(road_holds(program, body, tuple(numbers)), True)
                calls += body > 0
        self.assertGreater(calls, 300)

    def test_where_a_call_ends(self):
        """The last mark of a call that came back is a give, or one of whose goals the body's end is."""
        program = rows("fn f n", "if n", "give 1", "else", "end", "end", "call x f 1", "call y f 0")
        calls = calls_in(plain_run(program)[1], Spelled(program))
        self.assertEqual([marks[-1] for body, marks in calls], [("back", 4), ("do", 2), ("in", 3)])
        ends = dict(rows_of(program, 1))
        self.assertEqual((ends[("do", 2)], ends[("in", 3)]), ((), (None,)))

    def roads(self, program, body, holding, failing):
        for road in holding:
            self.assertIs(road_holds(program, body, road), True, road)
        for road in failing:
            self.assertIs(road_holds(program, body, road), False, road)

    def test_roads(self):
        # in 0: 1; do 0: 2 5; in 1: 3; do 1: 4; step 0: 2 5; do 2: end
        program = rows("times own i 2", "tell i", "end", "tell 2")
        self.roads(
            program, 0,
            [(0,), (3,), (5,), (0, 1), (0, 1, 5), (1, 5), (4, 2), (3, 4, 5), (0, 1, 2, 3, 4, 2, 3, 4, 5)],
            [(), (-1,), (6,), (7,), (0, 2), (1, 0), (5, 0), (5, 5), (0, 0), (0, 1, 2, 4), (0, 1, 1, 2), (2, 3, 4, -4),
             (-1, 0), (-6, 1), (0, -5), (4, 6), (10 ** 30,), (-10 ** 30, 0), (0, 1, 10 ** 30)],
        )

    def test_behind_a_give_and_the_end(self):
        program = rows("tell 1", "give 1", "tell 2")
        self.roads(program, 0, [(2,), (3,), (0, 1, 2)], [(2, 3), (3, 0), (0, 1, 2, 3), (1, 2, 3), (3, 4), (3, 3)])

    def test_of_other_bodies(self):
        program = rows("fn f", "tell 1", "end", "tell 2", "tell 3")
        self.roads(program, 1, [(0, 1), (1,)], [(0, 1, 2), (2,)])
        self.roads(program, 0, [(0, 1, 2, 3)], [(0, 1, 2, 3, 4), (4,)])

    def test_one_number_otherwise_left_out_twice(self):
        chance = random.Random(14)
        for program in sound_programs(60):
            spelled = Spelled(program)
            for body in range(len(spelled.bodies)):
                table = Rows(spelled, body).told()
                road = [chance.randrange(len(table))]
                while len(road) < 12 and any(goal is not None for goal in table[road[-1]][1]):
                    road.append(chance.choice([goal for goal in table[road[-1]][1] if goal is not None]))
                self.roads(program, body, [tuple(road)], [])
                for at in range(len(road)):
                    for other in (
                        road[:at] + road[at + 1:], road[:at] + [road[at]] + road[at:],
                        road[:at] + [chance.randrange(-2, len(table) + 2)] + road[at + 1:],
                    ):
                        steps = zip(other, other[1:])
                        holds = all(0 <= row < len(table) for row in other) and other != []
                        holds = holds and all(behind in table[ahead][1] for ahead, behind in steps)
                        self.assertIs(road_holds(program, body, tuple(other)), holds)

    def test_two_hundred_numbers(self):
        program = rows("while 1", "end")
        self.roads(program, 0, [(1, 2) * 100, (0,) + (1, 2) * 100], [(1, 2) * 99 + (2, 1), (2,) * 200])


class MakesAndSets(unittest.TestCase):
    def test_every_form(self):
        program = rows(
            "let a 1", "let b a + 1", "fn f p q", "set a p", "let c 2", "end", "call d f 1 2", "set b 3", "tell a",
            "if a", "let e 1", "else", "end", "while 0", "let g 1", "end", "times own i 2", "set i 4", "end",
            "times one j 2", "set j 5", "let h 1", "end", "give a",
        )
        wanted = {
            ("in", 0): ((), None), ("do", 0): ((0,), None), ("do", 1): ((1,), None), ("do", 2): ((2,), None),
            ("do", 5): ((), None), ("back", 5): ((6,), None), ("do", 6): ((), 1), ("do", 7): ((), None),
            ("do", 8): ((), None), ("in", 2): ((), None), ("do", 9): ((7,), None), ("in", 3): ((), None),
            ("do", 10): ((), None), ("in", 4): ((), None), ("do", 11): ((8,), None), ("do", 12): ((), None),
            ("in", 5): ((9,), None), ("do", 13): ((), 9), ("step", 12): ((), None), ("do", 14): ((), None),
            ("in", 6): ((10,), None), ("in", 7): ((), None), ("do", 15): ((), 10), ("do", 16): ((11,), None),
            ("step", 14): ((), 10), ("do", 17): ((), None), ("in", 1): ((3, 4), None), ("do", 3): ((), 0),
            ("do", 4): ((5,), None),
        }
        marks = [mark for body in (0, 1) for mark, goals in rows_of(program, body)]
        self.assertEqual(set(marks), set(wanted))
        for mark, told in wanted.items():
            self.assertEqual((makes(program, mark), sets(program, mark)), told, mark)
            self.assertIs(makes(program, mark).__class__, tuple)

    def test_set_of_the_nearest(self):
        program = rows(
            "let x 1", "fn f", "set x 2", "let x 3", "set x 4", "while 1", "set x 5", "end", "end", "set x 6",
        )
        told = [sets(program, ("do", k)) for k in range(8)]
        self.assertEqual(told, [None, None, 0, None, 2, None, 2, 0])

    def test_x_of_a_times_one_set_within(self):
        program = rows("times one i 3", "set i 1", "let i 2", "set i 3", "end")
        self.assertEqual([sets(program, mark) for mark in (("do", 1), ("do", 3), ("step", 0))], [0, 1, 0])

    def test_against_spelled(self):
        for program in sound_programs(120):
            spelled = Spelled(program)
            for body in range(len(spelled.bodies)):
                for mark, goals in Rows(spelled, body).told():
                    self.assertEqual(makes(program, mark), row_makes(spelled, mark))
                    self.assertEqual(sets(program, mark), row_sets(spelled, mark))


class AskersOwn(unittest.TestCase):
    def test_rows_emptied(self):
        for program in sound_programs(20):
            kept = copy.deepcopy(program)
            before = rows_of(program, 0)
            told = rows_of(program, 0)
            told.reverse()
            told.clear()
            rows_of(rows("tell 1"), 0)
            self.assertEqual(rows_of(program, 0), before)
            self.assertIsNot(rows_of(program, 0), rows_of(program, 0))
            self.assertEqual(makes(program, ("in", 0)), makes(program, ("in", 0)))
            self.assertEqual(program, kept)


if __name__ == "__main__":
    unittest.main()
