"""The machine: made rows done one a turn, with linked rooms or by a plan."""

from fourbind.bills import bill
from fourbind.deeds import made_bodies
from fourbind.flow import ground_at_hand, made_at
from fourbind.frames import Frame, LinkedRoom, Pack
from fourbind.linked import Links
from fourbind.packed import Packing
from fourbind.plain import MOST
from fourbind.words import come_to

# The deeds whose atoms must all be numbers, and where in them these begin.
NUMBERED = {"tell": 1, "sum": 3, "if": 1, "while": 1, "times": 2}


def as_told(worth):
    """A value as it is told."""
    if isinstance(worth, Pack):
        return ("body", worth.body, worth.order)
    return worth


class Machine:
    """A run of a program that was made anew, one mark a turn."""

    def __init__(self, program, *, plan=None):
        self.binding = Links(program) if plan is None else Packing(program, plan)
        self.web = self.binding.web
        self.looked = self.web.looked
        self.bodies = made_bodies(self.binding)
        self.prices = bill(program, plan=plan)
        self.spent = (0, 0, 0, 0, 0, 0)
        self.done = []
        self.numbers = []
        self.finish = None
        self.given = 0
        self.many_fns = 0
        self.frame = self.new_frame(0, (), None)

    def __len__(self):
        return len(self.done)

    def turn(self):
        """Does the mark that comes; True where one more comes behind it."""
        if self.finish is not None:
            return False
        mark, deed, goals = self.coming_row()
        self.done.append(mark)
        self.spent = tuple([ahead + more for ahead, more in zip(self.spent, self.prices[mark])])
        self.note_makings(mark)
        self.do_deed(mark[1], deed)
        return self.finish is None

    def mark(self):
        """The mark that comes, None at the end."""
        return None if self.finish is not None else self.coming_row()[0]

    def marks(self):
        """The marks that were done."""
        return list(self.done)

    def told(self):
        """The numbers that were told."""
        return list(self.numbers)

    def end(self):
        """The end, None while a mark comes."""
        return self.finish

    def seen(self, m):
        """What the machine has in hand under making m at the mark that comes."""
        if self.finish is not None or not self.is_in_hand(m):
            return None
        ground = ground_at_hand(self.looked, self.mark())
        return as_told(self.frame.worth_of(self.binding.place(self.frame.body, ground, m)))

    def costs(self):
        """What the marks that were done have cost."""
        return self.spent

    def coming_row(self):
        """The made row that comes."""
        head, rows = self.bodies[self.frame.body]
        return rows[self.frame.at]

    def is_in_hand(self, m):
        """True where m is needed by the body that runs, or is its own, made by now, in a ground that is open."""
        if self.looked.maker(m) != self.frame.body:
            return m in self.web.needed[self.frame.body]
        return m in self.frame.present and m not in self.web.names and self.is_open(self.looked.making_rows[m][2])

    def is_open(self, ground):
        """True where the ground is the one at hand, or around it."""
        here = ground_at_hand(self.looked, self.mark())
        while here is not None and here != ground:
            here = self.looked.ground_rows[here][2]
        return here is not None

    def note_makings(self, mark):
        """Notes what is made by now; where a ground is gone in again, what was made in it is its last room's."""
        frame = self.frame
        if mark[0] == "in":
            frame.present = {m: True for m in frame.present if self.looked.making_rows[m][2] != mark[1]}
        for m in made_at(self.looked, mark):
            frame.present[m] = True

    def new_frame(self, body, handed, around):
        frame = Frame(body, handed, around)
        if isinstance(self.binding, Packing):
            frame.slots = [None for m in self.binding.slots[body]]
        return frame

    def stop(self, finish):
        self.finish = finish

    def go_on(self, choice):
        """The goal of this choice of the row just done comes; linked rooms outside of which it stands are left."""
        frame = self.frame
        mark, deed, goals = self.coming_row()
        if goals[choice] is None:
            self.give(0)
            return
        frame.at = goals[choice]
        if isinstance(self.binding, Links):
            ground = self.binding.rooms.nearest_roomed(ground_at_hand(self.looked, self.mark()))
            while frame.room.ground != ground:
                frame.room = frame.room.around

    def do_deed(self, at, deed):
        word = deed[0]
        if word in ("begin", "enter"):
            self.go_in(at, deed)
        elif word == "step":
            self.step(at, deed[1])
        elif word == "give":
            self.give(self.frame.worth_of(deed[1]))
        elif word == "call":
            self.start_call(at, deed)
        elif word == "go":
            self.start_known(at, deed)
        elif word in NUMBERED:
            self.do_with_numbers(at, deed)
        else:
            self.do_simply(deed)
            self.go_on(0)

    def go_in(self, ground, deed):
        word, many, where = deed
        kind, k, around = self.looked.ground_rows[ground]
        frame = self.frame
        if many is not None:
            frame.room = LinkedRoom(ground, frame.room, many)
        if word == "begin":
            for place, worth in zip(where, frame.handed):
                frame.make_at(place, worth)
        elif where is not None:
            frame.make_at(where, 0 if kind == "head" else frame.rounds[k])
        self.go_on(1 if kind == "head" and frame.limits[k] == 0 else 0)

    def do_with_numbers(self, k, deed):
        """Does a deed that needs numbers."""
        word = deed[0]
        numbers = [self.frame.worth_of(atom) for atom in deed[NUMBERED[word]:]]
        if not all([isinstance(number, int) for number in numbers]):
            self.stop(("fault", "kind", k))
        elif word == "tell":
            self.numbers.append(numbers[0])
            self.go_on(0)
        elif word == "sum":
            self.frame.make_at(deed[1], come_to(deed[2], numbers[0], numbers[1]))
            self.go_on(0)
        elif word == "times":
            self.start_times(k, deed[1], numbers[0])
        else:
            self.go_on(1 if numbers[0] == 0 else 0)

    def do_simply(self, deed):
        """Does a deed that is never a fault, and behind which the next row always comes."""
        word = deed[0]
        if word == "let":
            self.frame.make_at(deed[1], self.frame.worth_of(deed[2]))
        elif word == "set":
            self.frame.set_to(deed[1], self.frame.worth_of(deed[2]))
        elif word == "bind":
            self.frame.make_at(deed[1], self.given)
        else:
            if word == "fn":
                self.make_body(deed)
            # The fns of known bodies count, too, though nothing is made by them.
            self.many_fns += 1

    def make_body(self, deed):
        word, place, body, places = deed
        frame = self.frame
        # A new cell ahead of the pack, which may have it among its things.
        frame.make_at(place, None)
        things = [frame.held_at(thing) for thing in places]
        frame.set_to(place, Pack(body, self.many_fns, frame.room, things))

    def start_times(self, k, mode, limit):
        frame = self.frame
        frame.limits[k] = limit
        frame.rounds[k] = 0
        self.go_on(1 if mode == "own" and limit == 0 else 0)

    def step(self, k, place):
        frame = self.frame
        ahead = frame.rounds[k] if place is None else frame.worth_of(place)
        if not isinstance(ahead, int):
            self.stop(("fault", "kind", k))
            return
        now = come_to("+", ahead, 1)
        if place is None:
            frame.rounds[k] = now
        else:
            frame.set_to(place, now)
        self.go_on(0 if now < frame.limits[k] else 1)

    def start_call(self, k, deed):
        word, place, args = deed
        called = self.frame.worth_of(place)
        if not isinstance(called, Pack):
            self.stop(("fault", "kind", k))
            return
        inner = self.called_frame(k, called.body, args)
        if inner is not None:
            inner.bear(called)
            self.frame = inner

    def start_known(self, k, deed):
        word, body, args, places = deed
        inner = self.called_frame(k, body, args)
        if inner is not None:
            inner.things = [self.frame.held_at(place) for place in places]
            self.frame = inner

    def called_frame(self, k, body, args):
        """A frame for the body, the row of the call's back coming in the one at hand; None where it is a fault."""
        fn, params = self.looked.body_rows[body]
        if len(params) != len(args):
            self.stop(("fault", "count", k))
            return None
        handed = [self.frame.worth_of(arg) for arg in args]
        self.go_on(0)
        return self.new_frame(body, handed, self.frame)

    def give(self, worth):
        """The body that runs is over and gives this."""
        if self.frame.around is None:
            self.stop(("gave", as_told(worth)))
            return
        self.given = worth
        self.frame = self.frame.around


def machine_run(program, *, plan=None, most=MOST):
    """The end, the marks, the numbers told and the costs of a run of at most so many turns."""
    machine = Machine(program, plan=plan)
    while len(machine) < most and machine.mark() is not None:
        machine.turn()
    end = ("going",) if machine.end() is None else machine.end()
    return (end, machine.marks(), machine.told(), machine.costs())
