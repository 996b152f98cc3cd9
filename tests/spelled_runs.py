"""The points on machines and bills once more (27 to 30), to set the program against.

Nothing here is taken from the package. Runs are generators over the tree of nodes: names lie in dicts by their makings,
cells are lists of one, rooms are found by their grounds; and what is done is counted as it is done.
"""

from spelled import WIDE, Ended, Gave, Rows, names_used
from spelled_ways import PackedRows, Rooms


class Closure:
    """A made body; `bears` is a room, or a dict of things."""

    def __init__(self, body, order, bears):
        self.body, self.order, self.bears = body, order, bears


class Room:
    def __init__(self, ground, around):
        self.ground, self.around, self.held = ground, around, {}


class Frame:
    """A call: `stack` has, for each ground of the body that is open, what is made in it by now."""

    def __init__(self, body, bears, me):
        self.body, self.me, self.stack, self.own = body, me, [], {}
        self.room = bears if isinstance(bears, Room) else None
        self.things = dict(bears) if isinstance(bears, dict) else {}


class WayRun:
    """Points 27 to 29. Marks are yielded ahead of being done, `frame` being at hand."""

    def __init__(self, spelled):
        self.spelled, self.fns, self.told, self.end, self.frame = spelled, 0, [], None, None
        # Point 30, counted as it is done: hops, opens, copies, cells, packs, rooms.
        self.counts = [0] * 6

    def go(self):
        try:
            self.frame = Frame(0, None, None)
            gave = yield from self.run_call(0, ())
            self.end = ("gave", self.shown(gave))
        except Ended as error:
            self.end = error.args[0]

    def shown(self, worth):
        return ("body", worth.body, worth.order) if isinstance(worth, Closure) else worth

    def run_call(self, body, args):
        """The body's marks, in the frame at hand; told is what it gave."""
        frame, node = self.frame, self.spelled.bodies[body]
        ground = self.spelled.body_grounds[body]
        try:
            yield from self.enter(ground)
            params = [] if node[0] is None else self.spelled.nodes[node[0]].makes[1:]
            for m, worth in zip(params, args):
                self.make(m, worth)
            yield from self.run_block(self.spelled.body_blocks[body])
            gave = 0
        except Gave as error:
            gave = error.args[0]
        assert self.frame is frame
        return gave

    def enter(self, ground):
        yield ("in", ground)
        self.frame.stack.append(set())
        self.begin_room(ground)

    def leave(self, ground):
        self.frame.stack.pop()
        self.end_room(ground)

    def run_block(self, nodes):
        for node in nodes:
            yield from getattr(self, "run_" + node.word)(node, *node.statement[1:])

    def make(self, m, worth):
        self.frame.stack[-1].add(m)
        self.keep(m, worth)

    def atoms(self, node, *atoms):
        meant = iter(self.spelled.meant[node.k][len(names_used(node.statement)) - sum(
            isinstance(atom, str) for atom in atoms):])
        return [self.look(next(meant), node) if isinstance(atom, str) else atom for atom in atoms]

    def numbers(self, node, *atoms):
        worths = self.atoms(node, *atoms)
        if any(isinstance(worth, Closure) for worth in worths):
            raise Ended(("fault", "kind", node.k))
        return worths

    def run_let(self, node, x, a):
        yield ("do", node.k)
        self.make(node.makes[0], *self.atoms(node, a))

    def run_sum(self, node, x, s, a, b):
        yield ("do", node.k)
        a, b = self.numbers(node, a, b)
        worth = {"+": a + b, "-": a - b, "*": a * b, "<": int(a < b), "=": int(a == b)}[s]
        self.make(node.makes[0], worth % WIDE)

    def run_set(self, node, x, a):
        yield ("do", node.k)
        worth, = self.atoms(node, a)
        self.change(self.spelled.meant[node.k][0], worth, node)

    def run_tell(self, node, a):
        yield ("do", node.k)
        self.told += self.numbers(node, a)

    def run_give(self, node, a):
        yield ("do", node.k)
        raise Gave(*self.atoms(node, a))

    def run_if(self, node, a, one, other):
        yield ("do", node.k)
        which = 0 if self.numbers(node, a)[0] else 1
        yield from self.enter(node.inner[which])
        yield from self.run_block(node.blocks[which])
        self.leave(node.inner[which])

    def run_while(self, node, a, block):
        yield ("do", node.k)
        while self.numbers(node, a)[0]:
            yield from self.enter(node.inner[0])
            yield from self.run_block(node.blocks[0])
            self.leave(node.inner[0])
            yield ("do", node.k)

    def run_times(self, node, mode, x, a, block):
        yield ("do", node.k)
        limit, = self.numbers(node, a)
        m, number = node.makes[0], 0
        if mode == "one":
            yield from self.enter(node.head)
            self.make(m, 0)
        while number < limit:
            yield from self.enter(node.inner[0])
            if mode == "own":
                self.make(m, number)
            yield from self.run_block(node.blocks[0])
            self.leave(node.inner[0])
            yield ("step", node.k)
            if mode == "one":
                number = self.step_one(m, node)
            else:
                number = (number + 1) % WIDE
        if mode == "one":
            self.leave(node.head)

    def step_one(self, m, node):
        number = self.look(m, node)
        self.change(m, 0 if isinstance(number, Closure) else (number + 1) % WIDE, node)
        if isinstance(number, Closure):
            raise Ended(("fault", "kind", node.k))
        return (number + 1) % WIDE

    def run_call_of(self, node, body, bears, me, worths):
        if len(worths) != len(self.spelled.bodies[body][1]):
            raise Ended(("fault", "count", node.k))
        caller = self.frame
        self.frame = Frame(body, bears, me)
        gave = yield from self.run_call(body, worths)
        self.frame = caller
        yield ("back", node.k)
        self.make(node.makes[0], gave)

    def has(self, m, needed):
        """True where m is the running body's own and so open, or is needed by it."""
        return any(m in made for made in self.frame.stack) or m in needed[self.frame.body]


class LinkedRun(WayRun):
    def __init__(self, spelled):
        WayRun.__init__(self, spelled)
        self.rooms = Rooms(spelled)

    def begin_room(self, ground):
        if ground in self.rooms.roomed:
            self.frame.room = Room(ground, self.frame.room)
            self.counts[5] += 1

    def end_room(self, ground):
        if ground in self.rooms.roomed:
            self.frame.room = self.frame.room.around

    def room_of(self, m):
        """The nearest room of m's home, and how many rooms lie ahead of it."""
        room, many = self.frame.room, 0
        while room.ground != self.rooms.home(m):
            room, many = room.around, many + 1
        return room, many

    def keep(self, m, worth):
        room, many = self.room_of(m)
        assert many == 0
        room.held[m] = worth

    def look(self, m, node):
        room, many = self.room_of(m)
        self.counts[0] += many
        return room.held[m]

    def change(self, m, worth, node):
        room, many = self.room_of(m)
        self.counts[0] += many
        room.held[m] = worth

    def run_fn(self, node, x, params, block):
        yield ("do", node.k)
        self.make(node.makes[0], Closure(node.new_body, self.fns, self.frame.room))
        self.fns += 1
        self.counts[4] += 1

    def run_call(self, *parts):
        """Of a body's number and args as above, else of a call's node."""
        if isinstance(parts[0], int):
            return (yield from WayRun.run_call(self, *parts))
        node, x, f, args = parts
        yield ("do", node.k)
        called, *worths = self.atoms(node, f, *args)
        if not isinstance(called, Closure):
            raise Ended(("fault", "kind", node.k))
        yield from self.run_call_of(node, called.body, called.bears, called, worths)

    def seen(self, m):
        if not self.has(m, self.rooms.needed):
            return None
        return self.shown(self.room_of(m)[0].held[m])


class PackedRun(WayRun):
    def __init__(self, spelled, known, cells):
        WayRun.__init__(self, spelled)
        self.way = PackedRows(spelled, known, cells)
        self.known, self.cells = known, cells

    def begin_room(self, ground):
        pass

    def end_room(self, ground):
        pass

    def where(self, m):
        """The dict in which m, or its cell, lies for the running body; None for its own name."""
        frame = self.frame
        for things in (frame.own, frame.things):
            if m in things:
                return things
        assert m == self.way.own_name(frame.body) and m in self.way.needed[frame.body]
        return None

    def keep(self, m, worth):
        self.counts[3] += m in self.cells
        self.frame.own[m] = [worth] if m in self.cells else worth

    def bare(self, m):
        where = self.where(m)
        return self.frame.me if where is None else where[m]

    def look(self, m, node):
        self.counts[1] += m in self.cells
        return self.bare(m)[0] if m in self.cells else self.bare(m)

    def change(self, m, worth, node):
        self.counts[1] += m in self.cells
        where = self.where(m)
        if m in self.cells:
            where[m][0] = worth
        elif where is None:
            self.frame.me = worth
        else:
            where[m] = worth

    def goes_along(self, body):
        self.counts[2] += len(self.way.things[body])
        return {m: self.bare(m) for m in self.way.things[body]}

    def run_fn(self, node, x, params, block):
        yield ("do", node.k)
        m, body = node.makes[0], node.new_body
        if body not in self.known:
            self.make(m, None)
            made = Closure(body, self.fns, self.goes_along(body))
            self.counts[4] += 1
            if m in self.cells:
                self.frame.own[m][0] = made
            else:
                self.frame.own[m] = made
        self.fns += 1

    def run_call(self, *parts):
        """Of a body's number and args as above, else of a call's node."""
        if isinstance(parts[0], int):
            return (yield from WayRun.run_call(self, *parts))
        node, x, f, args = parts
        yield ("do", node.k)
        known = self.way.called(node.k)
        if known is not None:
            worths = self.atoms(node, *args)
            yield from self.run_call_of(node, known, self.goes_along(known), None, worths)
            return
        called, *worths = self.atoms(node, f, *args)
        if not isinstance(called, Closure):
            raise Ended(("fault", "kind", node.k))
        yield from self.run_call_of(node, called.body, called.bears, called, worths)

    def seen(self, m):
        if not self.has(m, self.way.needed):
            return None
        held = self.bare(m)
        return self.shown(held[0] if m in self.cells else held)


def bill_marks(spelled):
    """All marks."""
    return {mark for body in range(len(spelled.bodies)) for mark, goals in Rows(spelled, body).told()}
