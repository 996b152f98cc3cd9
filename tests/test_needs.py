"""What bodies need, chains, what known bodies may pack (points 17, 18, 19)."""

import copy
import itertools
import random
import unittest

from fourbind.known import may_be_known
from fourbind.needs import chain, chain_holds, needs, packs
from samples import knowns, rows, sound_programs, spoiled
from spelled import Known, Spelled


class Needs(unittest.TestCase):
    def need(self, program, *wanted, known=()):
        """The needs of all bodies, in order; the chains are looked at, too."""
        told = needs(program, known=known)
        self.assertEqual(told, dict(enumerate(wanted)))
        self.assertIs(told.__class__, dict)
        many = len(Spelled(program).makings)
        for body, needed in told.items():
            self.assertIs(needed.__class__, tuple)
            for m in range(many):
                found = chain(program, body, m, known=known)
                self.assertEqual(found is not None, m in needed, (body, m))
                if found is not None:
                    self.assertIs(found.__class__, tuple)
                    self.assertEqual(len(set(found)), len(found))
                    self.assertIs(chain_holds(program, body, m, found, known=known), True)

    def test_known_left_out(self):
        self.assertEqual(needs(rows("let a 1", "fn f", "tell a", "end")), {0: (), 1: (0,)})

    def test_own_uses(self):
        for row in ("let x a", "let x 1 + a", "set a 1", "tell a", "give a", "if a\nelse\nend", "while a\nend",
                    "times own i a\nend", "times one i a\nend", "call x a"):
            self.need(rows("let a 1", "fn f", row, "end"), (), (0,))
            self.need(rows("let a 1", "fn f", "while 1", row, "end", "end"), (), (0,))
        self.need(rows("let a 1", "let b 2", "fn f", "set b a", "call x b a", "end"), (), (0, 1))

    def test_made_in_it(self):
        self.need(rows("fn f p", "let a p", "tell a", "times one i 2", "tell i", "end", "end"), (), ())
        self.need(rows("let a 1", "fn f a", "tell a", "end"), (), ())
        self.need(rows("let a 1", "fn f", "tell a", "let a 2", "tell a", "end"), (), (0,))

    def test_rising(self):
        self.need(rows("let a 1", "let b 2", "let c 3", "fn f", "tell c", "tell a", "tell b", "tell c", "end"), (),
                  (0, 1, 2))

    def test_of_bodies_that_it_makes(self):
        program = rows("let a 1", "fn f p", "let b 2", "fn g", "let x a + b", "tell p", "end", "end")
        # a, f, p, b, g, x
        self.need(program, (), (0,), (0, 2, 3))
        self.assertEqual(chain(program, 1, 0), (3, 4))
        self.assertEqual(chain(program, 2, 2), (5,))

    def test_known_bodies_that_it_makes_only(self):
        """A known body hands its needs on where it is called, not where it is made."""
        program = rows("let a 1", "fn f", "fn g", "tell a", "end", "end")
        self.need(program, (), (0,), (0,))
        self.need(program, (), (0,), (0,), known=(1,))
        self.need(program, (), (), (0,), known=(2,))
        self.need(program, (), (), (0,), known=(1, 2))

    def test_known_bodies_that_it_calls(self):
        program = rows("let a 1", "fn g", "tell a", "end", "fn f", "call x g", "end", "fn h", "call x f", "end")
        # a, g, f, x, h, x
        self.need(program, (), (0,), (1,), (2,))
        self.need(program, (), (0,), (0,), (2,), known=(1,))
        self.need(program, (), (0,), (0,), (0,), known=(1, 2))
        self.need(program, (), (0,), (0,), (0,), known=(1, 2, 3))
        self.need(program, (), (0,), (1,), (1,), known=(2,))
        self.assertEqual(chain(program, 3, 0, known=(1, 2)), (6, 4, 2))
        self.assertEqual(chain(program, 3, 1, known=(2,)), (6, 4))

    def test_own_name(self):
        program = rows("fn f", "call x f", "end")
        self.need(program, (), (0,))
        self.need(program, (), (), known=(1,))
        program = rows("fn f", "fn g", "call x f", "end", "end")
        # f, g, x
        self.need(program, (), (0,), (0,))
        self.need(program, (), (), (), known=(1,))
        self.need(program, (), (), (0,), known=(2,))

    def test_own_name_by_a_known_one_that_it_calls(self):
        program = rows("fn f", "fn g", "let h f", "end", "call x g", "end")
        self.need(program, (), (0,), (0,), known=(2,))
        self.assertEqual(chain(program, 1, 0, known=(2,)), (3, 2))

    def test_calling_one_another_round(self):
        program = rows(
            "let a 1", "let b 2", "fn f", "tell a", "fn g", "tell b", "call x f", "end", "call y g", "end", "call z f",
        )
        # a, b, f, g, x, y, z
        self.need(program, (), (0, 1, 2), (1, 2))
        self.need(program, (), (0, 1), (0, 1), known=(1,))
        self.need(program, (), (0, 1, 2), (1, 2), known=(2,))
        self.need(program, (), (0, 1), (0, 1), known=(1, 2))

    def test_made_anew_in_the_body_called(self):
        """What is made in a body isn't needed by it, though those that it calls need it."""
        program = rows("fn f p", "fn g", "tell p", "call x f 1", "end", "call y g", "end", "call z f 2")
        # f, p, g, x, y, z
        self.need(program, (), (0,), (0, 1))
        self.need(program, (), (), (1,), known=(1, 2))

    def test_known_names_are_left_out(self):
        program = rows("fn f", "end", "fn g", "call x f", "end", "fn h", "call y g", "end")
        self.need(program, (), (), (0,), (1,))
        self.need(program, (), (), (), (), known=(1, 2, 3))
        self.assertIsNone(chain(program, 2, 0, known=(1,)))
        self.assertIs(chain_holds(program, 2, 0, (2,), known=(1,)), False)
        self.assertIs(chain_holds(program, 2, 0, (2,)), True)

    def test_against_spelled(self):
        for at, program in enumerate(sound_programs(60)):
            spelled = Spelled(program)
            many = range(len(spelled.makings))
            for known in knowns(program, at):
                slow = Known(spelled, known)
                wanted = [tuple(m for m in many if slow.needs(body, m)) for body in range(len(spelled.bodies))]
                self.assertEqual(needs(program, known=known), dict(enumerate(wanted)))
        for at, program in enumerate(sound_programs(12)):
            for known in knowns(program, at):
                self.need(program, *needs(program, known=known).values(), known=known)


class Chains(unittest.TestCase):
    def chains(self, program, body, m, holding, failing, known=()):
        for road in holding:
            self.assertIs(chain_holds(program, body, m, road, known=known), True, road)
        for road in failing:
            self.assertIs(chain_holds(program, body, m, road, known=known), False, road)

    PROGRAM = rows(
        "let a 1",  # 0
        "fn f",  # 1, body 1
        "tell a",  # 2
        "call x f",  # 3
        "end",
        "fn g",  # 4, body 2
        "call x f",  # 5
        "fn h",  # 6, body 3
        "call y f",  # 7
        "tell a",  # 8
        "end",
        "let k h",  # 9
        "end",
        "call z g",  # 10
    )

    def test_any_numbers(self):
        self.chains(
            self.PROGRAM, 2, 0, [(6, 8), (5, 2), (6, 7, 2), (5, 3, 2), (5, 3, 3, 3, 2), (6, 7, 3, 2)],
            [(), (2,), (8,), (5,), (6,), (5, 8), (6, 2), (5, 6, 8), (6, 8, 8), (8, 6), (5, 2, 2), (9, 8), (-1,),
             (-1, 2), (11,), (5, -9), (6, 7), (5, 3), (6, 10 ** 20), (10 ** 20,), (-10 ** 20, 8), (4, 5, 2),
             (10, 5, 2), (0,), (5, 11)],
            known=(1,),
        )

    def test_nothing_known(self):
        self.chains(self.PROGRAM, 2, 0, [(6, 8)], [(5, 2), (6, 7, 2), (5, 3, 2), (2,), (6,), ()])
        self.chains(self.PROGRAM, 2, 1, [(5,), (6, 7)], [(5, 3), (6, 7, 3), (3,), (10,), (4,)])

    def test_known_ones_made_are_no_links(self):
        program = rows("let a 1", "fn f", "fn g", "tell a", "end", "call x g", "end")
        self.chains(program, 1, 0, [(4, 3)], [(2, 3)], known=(2,))
        self.chains(program, 1, 0, [(2, 3)], [(4, 3)])

    def test_not_made_on_the_way(self):
        """The last has a use that means the making, but it is made in one of the bodies."""
        program = rows("fn f p", "tell p", "fn g", "tell p", "call x f 1", "end", "call y g", "end", "call z f 2")
        # f, p, g, x, y, z; statements 0 to 7: fn f, tell p, fn g, tell p, call f, call g, call f
        self.chains(program, 2, 1, [(3,)], [(4, 1), (4, 2, 3), (4, 5, 3)], known=(1, 2))
        self.chains(program, 1, 1, [], [(1,), (5, 3), (2, 3), (5, 4, 1)], known=(1, 2))
        self.chains(program, 0, 1, [], [(6, 1), (6, 5, 3), (1,)], known=(1, 2))
        self.assertIsNone(chain(program, 1, 1, known=(1, 2)))

    def test_of_body_0(self):
        program = rows("let a 1", "tell a", "fn f", "tell a", "end", "call x f")
        self.chains(program, 0, 0, [], [(1,), (2, 3), (4, 3), (3,)])
        self.chains(program, 0, 0, [], [(1,), (4, 3)], known=(1,))

    def test_a_chain_with_a_number_otherwise(self):
        chance = random.Random(18)
        held = longest = 0
        for at, program in enumerate(sound_programs(40)):
            spelled = Spelled(program)
            for known in knowns(program, at):
                slow = Known(spelled, known)
                for body, needed in needs(program, known=known).items():
                    for m in needed[:4]:
                        road = chain(program, body, m, known=known)
                        longest = max(longest, len(road))
                        for other in [road, *spoiled(chance, road, len(spelled.nodes))]:
                            holds = slow.is_chain(body, m, other)
                            held += holds
                            self.assertIs(chain_holds(program, body, m, other, known=known), holds)
        self.assertGreater(held, 50)
        self.assertGreater(longest, 2)

    def test_all_short_ones(self):
        for at, program in enumerate(sound_programs(8, first=200)):
            spelled = Spelled(program)
            known = may_be_known(program) if at % 2 else ()
            slow = Known(spelled, known)
            numbers = range(-1, min(len(spelled.nodes), 25) + 1)
            for body, needed in needs(program, known=known).items():
                m = needed[-1] if needed else 0
                for road in itertools.chain([()], itertools.product(numbers), itertools.product(numbers, repeat=2)):
                    self.assertIs(chain_holds(program, body, m, road, known=known), slow.is_chain(body, m, road))

    def test_two_hundred_numbers(self):
        self.chains(self.PROGRAM, 1, 0, [(3,) * 199 + (2,)], [(3,) * 200, (3,) * 198 + (2, 2)], known=(1,))


class Packs(unittest.TestCase):
    def pack(self, program, wanted, known):
        told = packs(program, known=known)
        self.assertEqual(told, wanted)
        self.assertIs(told.__class__, dict)
        self.assertTrue(all(things.__class__ is tuple for things in told.values()))

    def test_nothing_known(self):
        program = rows("let a 1", "fn f", "fn g", "tell a", "end", "end")
        self.assertEqual(packs(program), {})
        self.pack(program, {}, ())

    def test_directly(self):
        program = rows("let a 1", "let b 2", "fn f p", "tell b", "fn g", "let x a + p", "end", "end")
        # a, b, f, p, g, x: b is needed by f, but packed by none; p is its own.
        self.pack(program, {1: (0,)}, (1,))
        self.pack(program, {2: ()}, (2,))
        self.pack(program, {1: (), 2: ()}, (1, 2))

    def test_along_calls_of_known_ones(self):
        program = rows(
            "let a 1", "fn f", "fn g", "tell a", "end", "give g", "end", "fn h", "call x f", "end", "fn i", "call y h",
            "end", "call z i",
        )
        # bodies: f 1, g 2, h 3, i 4
        self.pack(program, {1: (0,)}, (1,))
        self.pack(program, {1: (0,), 3: (0,)}, (1, 3))
        self.pack(program, {1: (0,), 3: (0,), 4: (0,)}, (1, 3, 4))
        self.pack(program, {1: (0,), 4: ()}, (1, 4))
        self.pack(program, {3: (), 4: ()}, (3, 4))

    def test_round(self):
        program = rows(
            "let a 1", "let b 2", "fn f", "fn g", "fn k", "tell a", "end", "call x f", "tell b", "give k", "end",
            "call y g", "end", "call z f",
        )
        # bodies: f 1, g 2, k 3; both f and g pack a, as they call one another; b is only used.
        self.pack(program, {1: (0,), 2: (0,)}, (1, 2))
        # With g not known f has a fn of it, which needs b, too.
        self.pack(program, {1: (0, 1)}, (1,))
        self.pack(program, {2: (0,)}, (2,))

    def test_made_in_it_is_not_packed(self):
        program = rows(
            "fn f", "let a 1", "fn h", "fn g", "tell a", "end", "give g", "end", "call x h", "end", "call y f",
        )
        # bodies: f 1, h 2, g 3
        self.pack(program, {1: (), 2: (1,)}, (1, 2))

    def test_known_names_are_left_out(self):
        program = rows("fn f", "fn g", "call x f", "end", "give g", "end", "call y f")
        self.pack(program, {1: ()}, (1,))
        program = rows("fn k", "end", "fn f", "fn g", "call x k", "end", "give g", "end", "call y f")
        self.pack(program, {2: (0,)}, (2,))
        self.pack(program, {1: (), 2: ()}, (1, 2))

    def test_against_spelled(self):
        some = 0
        for at, program in enumerate(sound_programs(150)):
            spelled = Spelled(program)
            for known in knowns(program, at):
                slow = Known(spelled, known)
                many = range(len(spelled.makings))
                wanted = {body: tuple(m for m in many if slow.packs(body, m)) for body in known}
                self.pack(program, wanted, known)
                some += any(wanted.values())
                needed = needs(program, known=known)
                self.assertTrue(all(set(things) <= set(needed[body]) for body, things in wanted.items()))
        self.assertGreater(some, 20)


class AskersOwn(unittest.TestCase):
    def test_dicts_changed(self):
        for program in sound_programs(20):
            kept = copy.deepcopy(program)
            known = may_be_known(program)
            for ask in (needs, packs):
                before = ask(program, known=known)
                told = ask(program, known=known)
                told[0] = "more"
                told.clear()
                needs(program), packs(program)
                self.assertEqual(ask(program, known=known), before)
            self.assertEqual(program, kept)
            self.assertEqual(known, may_be_known(program))

    def test_chains_again(self):
        for program in sound_programs(20):
            for body, needed in needs(program).items():
                for m in needed:
                    self.assertEqual(chain(program, body, m), chain(program, body, m))


if __name__ == "__main__":
    unittest.main()
