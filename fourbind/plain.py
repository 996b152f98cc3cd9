"""The plain reading: a program run mark by mark, each use going up from room to room."""

from fourbind.flow import goal_marks, ground_at_hand, made_at
from fourbind.looking import Looked
from fourbind.words import come_to

MOST = 400

# The statements whose atoms must all be numbers.
NUMBERED = ("tell", "sum", "if", "while", "times")


class Room:
    """A ground that was gone in: what was made in it by now, and how many were made of its ground ahead of it."""

    def __init__(self, ground, around, order):
        self.ground = ground
        self.around = around
        self.order = order
        self.held = {}


class Made:
    """A made body: its number, how many fns were done ahead, and the room in which it was made."""

    def __init__(self, body, order, room):
        self.body = body
        self.order = order
        self.room = room


class Call:
    """A call that goes on: its statement and room, the call around it, the args, and the rounds of its times."""

    def __init__(self, k, room, around, handed):
        self.k = k
        self.room = room
        self.around = around
        self.handed = handed
        # From a times to what a was, and to the round's number, which matters of an "own" alone.
        self.limits = {}
        self.rounds = {}


def as_told(worth):
    """A value as it is told."""
    if isinstance(worth, Made):
        return ("body", worth.body, worth.order)
    return worth


def nearest_with(room, m):
    """The nearest room, from this one outward, in which m was made by now; None where there is none."""
    while room is not None and m not in room.held:
        room = room.around
    return room


class Plain:
    """A run of a program, one mark a turn."""

    def __init__(self, program):
        self.looked = Looked(program)
        self.done = []
        self.numbers = []
        self.finish = None
        self.coming = ("in", 0)
        # The room in which the mark that comes is done.
        self.room = None
        self.running = Call(None, None, None, ())
        self.given = 0
        self.many_fns = 0
        self.many_rooms = [0 for row in self.looked.ground_rows]

    def __len__(self):
        return len(self.done)

    def turn(self):
        """Does the mark that comes; True where one more comes behind it."""
        if self.coming is None:
            return False
        word, at = self.coming
        self.done.append(self.coming)
        if word == "in":
            self.go_in(at)
        elif word == "do":
            self.do(at)
        elif word == "step":
            self.step(at)
        else:
            self.bind(at)
        return self.coming is not None

    def mark(self):
        """The mark that comes, None at the end."""
        return self.coming

    def marks(self):
        """The marks that were done."""
        return list(self.done)

    def told(self):
        """The numbers that were told."""
        return list(self.numbers)

    def end(self):
        """The end, None while a mark comes."""
        return self.finish

    def seen(self, m):
        """What is seen of making m at the mark that comes."""
        room = self.room_seen(m)
        return None if room is None else as_told(room.held[m])

    def whose(self, m):
        """How many rooms of m's ground were made ahead of the one in which m is seen."""
        room = self.room_seen(m)
        return None if room is None else room.order

    def room_seen(self, m):
        if self.coming is None:
            return None
        return nearest_with(self.room, m)

    def stop(self, finish):
        self.finish = finish
        self.coming = None

    def go_on(self, choice):
        """The goal of this choice of the mark just done comes, in the room where it is done."""
        goal = goal_marks(self.looked, self.done[-1])[choice]
        if goal is None:
            self.give(0)
            return
        self.coming = goal
        ground = ground_at_hand(self.looked, goal)
        while self.room.ground != ground:
            self.room = self.room.around

    def go_in(self, ground):
        kind, k, around = self.looked.ground_rows[ground]
        self.room = Room(ground, self.room, self.many_rooms[ground])
        self.many_rooms[ground] += 1
        for m, worth in zip(made_at(self.looked, ("in", ground)), self.worths_within(kind, k)):
            self.room.held[m] = worth
        self.go_on(1 if kind == "head" and self.running.limits[k] == 0 else 0)

    def worths_within(self, kind, k):
        """What is made where a ground of statement k is gone in."""
        if kind == "body":
            return self.running.handed
        if kind == "head":
            return [0]
        if kind == "times":
            return [self.running.rounds[k]]
        return []

    def values_at(self, k):
        """What the atoms of statement k are worth in the room at hand."""
        found = []
        for sort, thing in self.looked.atoms[k]:
            found.append(thing if sort == "num" else nearest_with(self.room, thing).held[thing])
        return found

    def do(self, k):
        word = self.looked.places[k].statement[0]
        values = self.values_at(k)
        if word in NUMBERED and not all([isinstance(worth, int) for worth in values]):
            self.stop(("fault", "kind", k))
        elif word == "call":
            self.start_call(k, values[0], values[1:])
        elif word == "give":
            self.give(values[0])
        elif word == "times":
            self.start_times(k, values[0])
        elif word in ("if", "while"):
            self.go_on(1 if values[0] == 0 else 0)
        else:
            self.do_simply(k, values)
            self.go_on(0)

    def do_simply(self, k, values):
        """Does a statement behind which the next one always comes."""
        statement = self.looked.places[k].statement
        word = statement[0]
        if word == "tell":
            self.numbers.append(values[0])
        elif word == "set":
            m = self.looked.meanings[k][0]
            room = nearest_with(self.room, m)
            room.held[m] = values[1]
        elif word == "fn":
            self.make(k, Made(self.looked.fn_bodies[k], self.many_fns, self.room))
            self.many_fns += 1
        elif word == "sum":
            self.make(k, come_to(statement[2], values[0], values[1]))
        else:
            self.make(k, values[0])

    def make(self, k, worth):
        """Makes the x of statement k in the room at hand."""
        self.room.held[self.looked.made[k][0]] = worth

    def start_call(self, k, called, handed):
        if not isinstance(called, Made):
            self.stop(("fault", "kind", k))
            return
        fn, params = self.looked.body_rows[called.body]
        if len(params) != len(handed):
            self.stop(("fault", "count", k))
            return
        self.running = Call(k, self.room, self.running, handed)
        self.room = called.room
        self.coming = ("in", self.looked.inner[("body", fn)])

    def give(self, worth):
        """The body that runs is over and gives this."""
        over = self.running
        if over.k is None:
            self.stop(("gave", as_told(worth)))
            return
        self.given = worth
        self.running = over.around
        self.room = over.room
        self.coming = ("back", over.k)

    def bind(self, k):
        self.make(k, self.given)
        self.go_on(0)

    def start_times(self, k, limit):
        self.running.limits[k] = limit
        self.running.rounds[k] = 0
        own = self.looked.places[k].statement[1] == "own"
        self.go_on(1 if own and limit == 0 else 0)

    def step(self, k):
        # The round's number of an "own" is nobody's; that of a "one" is its x, which may have been set.
        own = self.looked.places[k].statement[1] == "own"
        m = self.looked.made[k][0]
        ahead = self.running.rounds[k] if own else self.room.held[m]
        if not isinstance(ahead, int):
            self.stop(("fault", "kind", k))
            return
        now = come_to("+", ahead, 1)
        if own:
            self.running.rounds[k] = now
        else:
            self.room.held[m] = now
        self.go_on(0 if now < self.running.limits[k] else 1)


def plain_run(program, *, most=MOST):
    """The end, the marks and the numbers told of a run of at most so many turns."""
    reading = Plain(program)
    while len(reading) < most and reading.mark() is not None:
        reading.turn()
    end = ("going",) if reading.end() is None else reading.end()
    return (end, reading.marks(), reading.told())
