"""What is shared, roomed grounds and why, homes and slots, hops (points 24, 25)."""

import copy
import unittest

from fourbind.needs import needs
from fourbind.rooms import home, hops, roomed, shared, why_room
from fourbind.trees import grounds, makings, statements
from samples import lively_programs, rows, sound_programs
from spelled import Spelled
from spelled_ways import Rooms


class Roomy(unittest.TestCase):
    def told(self, program, wanted_shared, wanted_roomed, **why):
        """Looks at what is shared, what is roomed, and why: g3=(0, 1) for ground 3; of all others None."""
        self.assertEqual(shared(program), wanted_shared)
        self.assertEqual(roomed(program), wanted_roomed)
        for told in (shared(program), roomed(program)):
            self.assertIs(told.__class__, tuple)
        for ground in range(len(grounds(program))):
            self.assertEqual(why_room(program, ground), why.get(f"g{ground}"), ground)

    def homes(self, program, *wanted):
        self.assertEqual([home(program, m) for m in range(len(makings(program)))], list(wanted))
        for m in range(len(wanted)):
            self.assertIs(home(program, m).__class__, tuple)

    def hopping(self, program, *wanted):
        self.assertEqual([hops(program, k) for k in range(len(statements(program)))], list(wanted))


class Shared(Roomy):
    def test_no_statements(self):
        self.told((), (), (0,))
        self.told(rows("let a 1", "tell a"), (), (0,))

    def test_in_bodies(self):
        # a, f, p, g, x
        self.told(rows("let a 1", "fn f p", "fn g", "let x a + p", "end", "end"), (0, 2), (0, 1, 2))

    def test_called_and_set_names(self):
        # n, f, g, x
        self.told(rows("let n 1", "fn f", "end", "fn g", "call x f n", "set n 2", "end"), (0, 1), (0, 1, 2))
        self.told(rows("fn f", "call x f", "end"), (0,), (0, 1))

    def test_nothing_is_known_here(self):
        """Though f may be known, its name is shared where a body calls it."""
        self.told(rows("fn f", "end", "fn g", "call x f", "end"), (0,), (0, 1, 2))

    def test_uses_in_the_same_body(self):
        self.told(rows("let a 1", "while a", "if a", "set a 0", "else", "end", "end"), (), (0,))


class Whiles(Roomy):
    def test_shared_in_a_while(self):
        self.told(rows("while 1", "let a 1", "fn f", "tell a", "end", "end"), (0,), (0, 1, 2), g1=(0, 0))

    def test_not_shared_in_a_while(self):
        self.told(rows("let a 1", "while a", "let b 2", "fn f", "tell a", "end", "tell b", "end"), (0,), (0, 2))

    def test_no_bodys_making_is_shared(self):
        self.told(rows("while 1", "let a 1", "tell a", "times own i a", "tell i", "end", "end"), (), (0,))

    def test_the_first_making(self):
        # a, b, c, f
        program = rows("while 1", "let a 1", "let b 1", "let c 1", "fn f", "tell c", "tell b", "end", "end")
        self.told(program, (1, 2), (0, 1, 2), g1=(1, 0))

    def test_own_name_in_a_while(self):
        self.told(rows("tell 1", "while 1", "fn f", "call x f", "end", "end"), (0,), (0, 1, 2), g1=(0, 1))


class Arms(Roomy):
    def test_without_a_loop(self):
        program = rows("if 1", "let a 1", "fn f", "tell a", "end", "else", "let b 1", "fn g", "tell b", "end", "end")
        # grounds: 0, 1 one, 2 f, 3 other, 4 g
        self.told(program, (0, 2), (0, 2, 4))

    def test_within_a_loop(self):
        program = rows(
            "while 1", "if 1", "let a 1", "fn f", "tell a", "end", "else", "let b 1", "fn g", "tell b", "end", "end",
            "end",
        )
        # grounds: 0, 1 while, 2 one, 3 f, 4 other, 5 g
        self.told(program, (0, 2), (0, 2, 3, 4, 5), g2=(0, 0), g4=(2, 0))

    def test_within_a_loop_that_has_a_room(self):
        """No loop stands between the arm and the room of the while's block."""
        program = rows(
            "while 1", "let c 1", "fn h", "tell c", "end", "if 1", "let a 1", "fn f", "tell a", "end", "else", "end",
            "end",
        )
        # c, h, a, f; grounds: 0, 1 while, 2 h, 3 one, 4 f, 5 other
        self.told(program, (0, 2), (0, 1, 2, 4), g1=(0, 0))
        self.homes(program, (1, 0), (1, 1), (1, 2), (1, 3))

    def test_a_room_of_an_arm_around(self):
        """The nearest room around is an arm's; a loop between makes one more, an arm alone doesn't."""
        program = rows(
            "while 1", "if 1", "let a 1", "fn f", "tell a", "end", "if 1", "let b 1", "fn g", "tell b", "end", "else",
            "while 1", "let c 1", "fn h", "tell c", "end", "end", "end", "else", "end", "end",
        )
        # a, f, b, g, c, h; grounds: 0, 1 while, 2 one, 3 f, 4 one, 5 g, 6 other, 7 while, 8 h, 9 other
        self.told(program, (0, 2, 4), (0, 2, 3, 5, 7, 8), g2=(0, 0), g7=(4, 9))
        self.homes(program, (2, 0), (2, 1), (2, 2), (2, 3), (7, 0), (7, 1))


class Times(Roomy):
    def test_x_of_an_own(self):
        self.told(rows("times own i 3", "fn f", "tell i", "end", "end"), (0,), (0, 1, 2), g1=(0, 0))

    def test_x_of_a_one(self):
        """One x for all rounds: no loop stands between the head and the body's room."""
        program = rows("times one i 3", "fn f", "tell i", "end", "end")
        # grounds: 0, 1 head, 2 times, 3 f
        self.told(program, (0,), (0, 3))
        self.homes(program, (0, 0), (0, 1))

    def test_a_one_within_a_loop(self):
        program = rows("while 1", "times one i 3", "fn f", "tell i", "end", "end", "end")
        # grounds: 0, 1 while, 2 head, 3 times, 4 f
        self.told(program, (0,), (0, 2, 4), g2=(0, 0))
        self.homes(program, (2, 0), (2, 1))

    def test_the_block_of_a_one(self):
        program = rows("times one i 3", "let a i", "fn f", "tell a", "end", "end")
        # i, a, f; grounds: 0, 1 head, 2 times, 3 f
        self.told(program, (1,), (0, 2, 3), g2=(1, 0))
        self.homes(program, (0, 0), (2, 0), (2, 1))

    def test_head_and_block(self):
        program = rows("while 1", "times one i 3", "let a i", "fn f", "let x a + i", "end", "end", "end")
        # i, a, f, x; grounds: 0, 1 while, 2 head, 3 times, 4 f
        self.told(program, (0, 1), (0, 2, 3, 4), g2=(0, 0), g3=(1, 1))
        self.homes(program, (2, 0), (3, 0), (3, 1), (4, 0))

    def test_a_making_of_an_own_beside_x(self):
        """x itself isn't shared, but has the block's room as its home."""
        program = rows("times own i 3", "let a i", "fn f", "tell a", "end", "end")
        self.told(program, (1,), (0, 1, 2), g1=(1, 0))
        self.homes(program, (1, 0), (1, 1), (1, 2))


class Loops(Roomy):
    def test_the_nearest_loop(self):
        program = rows("times own i 2", "while 1", "let a 1", "fn f", "tell a", "end", "end", "end")
        # i, a, f; grounds: 0, 1 times, 2 while, 3 f
        self.told(program, (1,), (0, 2, 3), g2=(1, 1))
        self.homes(program, (0, 0), (2, 0), (2, 1))

    def test_the_nearest_loop_of_an_arm(self):
        program = rows(
            "while 1", "while 1", "if 1", "if 1", "let a 1", "fn f", "tell a", "end", "else", "end", "else", "end",
            "end", "end",
        )
        # grounds: 0, 1 while, 2 while, 3 one, 4 one, 5 f, ..
        self.told(program, (0,), (0, 4, 5), g4=(0, 1))

    def test_rooms_within_rooms(self):
        program = rows(
            "times own i 2", "fn f", "tell i", "end", "times own j 2", "fn g", "tell j", "tell i", "end", "end", "end",
        )
        # i, f, j, g; grounds: 0, 1 times, 2 f, 3 times, 4 g
        self.told(program, (0, 2), (0, 1, 2, 3, 4), g1=(0, 0), g3=(2, 3))

    def test_bodies_within_loops(self):
        """A body's ground has a room anyway: no loop is looked for beyond it."""
        program = rows("while 1", "fn f", "let a 1", "if 1", "let b 1", "fn g", "tell a", "tell b", "end", "else",
                       "end", "end", "end")
        # f, a, b, g; grounds: 0, 1 while, 2 f, 3 one, 4 g, 5 other
        self.told(program, (1, 2), (0, 2, 4))
        self.homes(program, (0, 0), (2, 0), (2, 1), (2, 2))

    def test_loops_within_bodies(self):
        program = rows("fn f n", "while n", "let a 1", "fn g", "tell a", "tell n", "end", "end", "end")
        # f, n, a, g; grounds: 0, 1 f, 2 while, 3 g
        self.told(program, (1, 2), (0, 1, 2, 3), g2=(2, 1))
        self.homes(program, (0, 0), (1, 0), (2, 0), (2, 1))


class Homes(Roomy):
    def test_slots_in_order(self):
        program = rows("let a 1", "fn f p q", "let c 1", "end", "if 1", "let d 1", "else", "let d 2", "end",
                       "while 1", "let g 1", "end", "times own i 1", "end", "times one j 1", "end", "let z 1")
        # a, f, p, q, c, d, d, g, i, j, z
        self.homes(program, (0, 0), (0, 1), (1, 0), (1, 1), (1, 2), (0, 2), (0, 3), (0, 4), (0, 5), (0, 6), (0, 7))

    def test_slots_beside_rooms(self):
        program = rows("let a 1", "while a", "let b 1", "if b", "let c 1", "else", "end", "fn f", "tell b", "end",
                       "end", "let d 1")
        # a, b, c, f, d; grounds: 0, 1 while, 2, 3, 4 f
        self.homes(program, (0, 0), (1, 0), (1, 1), (1, 2), (0, 1))


class Hops(Roomy):
    def test_over_bodies(self):
        program = rows("let a 1", "fn f p", "fn g q", "let x a + p", "let y q + x", "end", "let z a", "end", "let b a")
        self.hopping(program, (), (), (), (2, 1), (0, 0), (1,), (0,))

    def test_statements_without_uses(self):
        program = rows("let a 1", "let b 1 + 2", "tell 3", "if 1", "else", "end", "while 0", "end", "times own i 2",
                       "end", "times one j 2", "end", "fn f", "end", "give 4")
        self.hopping(program, *[()] * 9)
        for k in range(9):
            self.assertIs(hops(program, k).__class__, tuple)

    def test_numbers_among_the_atoms(self):
        program = rows("let a 1", "fn f p q r s", "end", "fn g", "let b 1", "call x f 1 a 2 b", "let c 3 + a",
                       "let d a + 3", "set a 5", "set a b", "set b a", "give a", "end")
        self.hopping(program, (), (), (), (), (1, 1, 0), (1,), (1,), (1,), (1, 0), (0, 1), (1,))

    def test_conditions(self):
        program = rows("let a 1", "fn f", "if a", "else", "end", "while a", "end", "times own i a", "end",
                       "times one j a", "end", "tell a", "end")
        self.hopping(program, (), (), (1,), (1,), (1,), (1,), (1,))

    def test_over_rooms_of_loops(self):
        program = rows(
            "let n 1", "while n", "tell n", "let a n", "fn f", "let x a + n", "end", "times own i a", "tell a",
            "fn g", "let y i + a", "end", "end", "end",
        )
        # n, a, f, x, i, g, y; roomed: 0, the while's, f, the times', g
        self.hopping(program, (), (0,), (1,), (1,), (), (1, 2), (0,), (1,), (), (1, 2))

    def test_a_while_is_looked_at_from_around_its_block(self):
        program = rows("let n 1", "while n", "let a 1", "fn f", "tell a", "set n 0", "end", "if n", "tell n", "else",
                       "end", "end")
        self.hopping(program, (), (0,), (), (), (1,), (2,), (1,), (1,))

    def test_heads_with_rooms(self):
        program = rows("let n 1", "while 1", "times one i n", "tell i", "fn f", "let x i + n", "end", "end", "end")
        # the head has a room, its block has none
        self.hopping(program, (), (), (0,), (0,), (), (1, 2))


class Against(Roomy):
    def test_drawn_programs(self):
        found = set()
        for program in sound_programs(120) + lively_programs(120):
            spelled = Spelled(program)
            slow = Rooms(spelled)
            self.assertEqual(shared(program), tuple(sorted(slow.shared)))
            self.assertEqual(roomed(program), tuple(slow.roomed))
            for ground, row in enumerate(spelled.grounds):
                self.assertEqual(why_room(program, ground), slow.why(ground))
                found.add((row[0], ground in slow.roomed))
            for m in range(len(spelled.makings)):
                self.assertEqual(home(program, m), (slow.home(m), slow.slots(slow.home(m)).index(m)))
            for node in spelled.nodes:
                wanted = tuple(slow.hops(node.ground, m) for m in spelled.meant[node.k])
                self.assertEqual(hops(program, node.k), wanted)
                found |= {many for many in wanted if many < 5}
        self.assertLessEqual({(sort, True) for sort in ("body", "one", "other", "while", "times", "head")}, found)
        self.assertLessEqual({(sort, False) for sort in ("one", "other", "while", "times", "head")}, found)
        self.assertLessEqual({0, 1, 2, 3, 4}, found)

    def test_shared_is_what_some_body_needs(self):
        for program in lively_programs(60):
            self.assertEqual(shared(program), tuple(sorted({m for told in needs(program).values() for m in told})))

    def test_no_two_in_one_slot(self):
        for program in lively_programs(60):
            told = [home(program, m) for m in range(len(makings(program)))]
            self.assertEqual(len(set(told)), len(told))
            for ground in roomed(program):
                slots = [slot for where, slot in told if where == ground]
                self.assertEqual(slots, list(range(len(slots))))

    def test_deep_blocks(self):
        block = (("let", "a", 1), ("fn", "f", (), (("tell", "a"),)))
        for _ in range(60):
            block = (("while", 1, block),)
        self.assertEqual(roomed(block), (0, 60, 61))
        self.assertEqual(why_room(block, 60), (0, 59))
        self.assertEqual(hops(block, 62), (1,))

    def test_told_again(self):
        others = lively_programs(5, first=700)
        for program in lively_programs(10):
            kept = copy.deepcopy(program)
            before = self.all_told(program)
            for other in others:
                self.all_told(other)
            self.assertEqual(self.all_told(program), before)
            self.assertEqual(program, kept)

    def all_told(self, program):
        return [
            shared(program), roomed(program), [why_room(program, ground) for ground in range(len(grounds(program)))],
            [home(program, m) for m in range(len(makings(program)))],
            [hops(program, k) for k in range(len(statements(program)))],
        ]


if __name__ == "__main__":
    unittest.main()
