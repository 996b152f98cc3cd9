"""The document's points once more, by calls within calls over a tree of nodes, to set the program against.

Nothing here is taken from the package: numbers, what uses mean, runs, rows, needs, cells are found anew.
"""

import sys

WIDE = 10 ** 9

# Bodies that call themselves nest the generators of a run deep.
sys.setrecursionlimit(20000)


class Node:
    """A statement with its number, its ground, its body, the grounds of its blocks and what it makes."""

    def __init__(self, k, statement, ground, body):
        self.k, self.statement, self.word = k, statement, statement[0]
        self.ground, self.body = ground, body
        self.head, self.inner, self.blocks, self.makes, self.new_body = None, [], [], [], None
        self.uses = []


class Spelled:
    def __init__(self, program):
        self.nodes, self.bodies, self.grounds, self.makings = [], [(None, ())], [], []
        self.body_blocks = {}
        ground = self.ground("body", None, None)
        self.body_grounds = [ground]
        self.body_blocks[0] = self.block(program, ground, 0)
        self.meant = [tuple(self.means(node, name) for name in names_used(node.statement)) for node in self.nodes]

    def ground(self, sort, k, around):
        self.grounds.append((sort, k, around))
        return len(self.grounds) - 1

    def making(self, node, name, ground):
        node.makes.append(len(self.makings))
        self.makings.append((name, node.k, ground))

    def block(self, statements, ground, body):
        return [self.statement(statement, ground, body) for statement in statements]

    def statement(self, statement, ground, body):
        node = Node(len(self.nodes), statement, ground, body)
        self.nodes.append(node)
        word = node.word
        if word in ("let", "sum", "call", "fn"):
            self.making(node, statement[1], ground)
        if word == "fn":
            node.new_body = len(self.bodies)
            self.bodies.append((node.k, statement[2]))
            inner = self.ground("body", node.k, ground)
            self.body_grounds.append(inner)
            for name in statement[2]:
                self.making(node, name, inner)
            self.body_blocks[node.new_body] = self.block(statement[3], inner, node.new_body)
        elif word == "if":
            for sort, part in (("one", statement[2]), ("other", statement[3])):
                node.inner.append(self.ground(sort, node.k, ground))
                node.blocks.append(self.block(part, node.inner[-1], body))
        elif word == "while":
            node.inner.append(self.ground("while", node.k, ground))
            node.blocks.append(self.block(statement[2], node.inner[-1], body))
        elif word == "times":
            around = ground
            if statement[1] == "one":
                around = node.head = self.ground("head", node.k, ground)
            node.inner.append(self.ground("times", node.k, around))
            self.making(node, statement[2], node.inner[0] if node.head is None else node.head)
            node.blocks.append(self.block(statement[4], node.inner[0], body))
        return node

    def means(self, node, name):
        """Point 7: the last making of the name with a lower statement, in the nearest ground around."""
        ground = node.ground
        while ground is not None:
            found = [
                m for m, (made, k, where) in enumerate(self.makings)
                if made == name and where == ground and k < node.k
            ]
            if found:
                return found[-1]
            ground = self.grounds[ground][2]
        return None

    def amiss(self):
        """Point 9: the first thing amiss as (word, at, name), None where the program is let by."""
        for node in self.nodes:
            for name, m in zip(names_used(node.statement), self.meant[node.k]):
                if m is None:
                    return ("unknown", node.k, name)
            for m in node.makes:
                name, _, ground = self.makings[m]
                if any(made == name and where == ground for made, _, where in self.makings[:m]):
                    return ("twice", node.k, name)
        return None

    def body_of_making(self, m):
        """The body in which making m is made."""
        name, k, ground = self.makings[m]
        node = self.nodes[k]
        return node.new_body if node.word == "fn" and m != node.makes[0] else node.body


def names_used(statement):
    """Point 8, word by word of the text, behind what is made."""
    word, *parts = statement
    if word == "fn":
        return []
    if word == "call":
        parts = [parts[1], *parts[2]]
    elif word == "sum":
        parts = parts[2:]
    elif word == "let":
        parts = parts[1:]
    elif word == "times":
        parts = parts[2:3]
    elif word in ("if", "while"):
        parts = parts[:1]
    return [part for part in parts if isinstance(part, str)]


class Room:
    def __init__(self, ground, around, order):
        self.ground, self.around, self.order, self.names = ground, around, order, {}


class Closure:
    def __init__(self, body, order, room):
        self.body, self.order, self.room = body, order, room


class Ended(Exception):
    pass


class Gave(Exception):
    pass


class Run:
    """Points 10 to 13: `marks` are yielded ahead of being done, each with the room at hand."""

    def __init__(self, spelled):
        self.spelled, self.many, self.fns = spelled, {}, 0
        self.told, self.end = [], None

    def go(self):
        try:
            try:
                yield from self.run_body(0, None, ())
                gave = 0
            except Gave as error:
                gave = error.args[0]
            self.end = ("gave", shown_value(gave))
        except Ended as error:
            self.end = error.args[0]

    def enter(self, ground, around):
        yield ("in", ground), around
        order = self.many.get(ground, 0)
        self.many[ground] = order + 1
        self.room = Room(ground, around, order)

    def run_body(self, body, around, args):
        yield from self.enter(self.spelled.body_grounds[body], around)
        room = self.room
        room.names.update(zip(self.spelled.bodies[body][1], args))
        yield from self.run_block(self.spelled.body_blocks[body], room)

    def run_block(self, nodes, room):
        for node in nodes:
            yield from getattr(self, "run_" + node.word)(node, room, *node.statement[1:])

    def worth(self, node, room, atom):
        if not isinstance(atom, str):
            return atom
        ground = self.spelled.makings[self.spelled.means(node, atom)][2]
        while room.ground != ground:
            room = room.around
        return room.names[atom]

    def number(self, node, room, atom):
        worth = self.worth(node, room, atom)
        if isinstance(worth, Closure):
            raise Ended(("fault", "kind", node.k))
        return worth

    def run_let(self, node, room, x, a):
        yield ("do", node.k), room
        room.names[x] = self.worth(node, room, a)

    def run_sum(self, node, room, x, s, a, b):
        yield ("do", node.k), room
        a, b = self.number(node, room, a), self.number(node, room, b)
        worth = {"+": a + b, "-": a - b, "*": a * b, "<": int(a < b), "=": int(a == b)}[s]
        room.names[x] = worth % WIDE

    def run_fn(self, node, room, x, params, block):
        yield ("do", node.k), room
        room.names[x] = Closure(node.new_body, self.fns, room)
        self.fns += 1

    def run_call(self, node, room, x, f, args):
        yield ("do", node.k), room
        called = self.worth(node, room, f)
        if not isinstance(called, Closure):
            raise Ended(("fault", "kind", node.k))
        if len(args) != len(self.spelled.bodies[called.body][1]):
            raise Ended(("fault", "count", node.k))
        worths = [self.worth(node, room, arg) for arg in args]
        try:
            yield from self.run_body(called.body, called.room, worths)
            gave = 0
        except Gave as error:
            gave = error.args[0]
        yield ("back", node.k), room
        room.names[x] = gave

    def run_set(self, node, room, x, a):
        yield ("do", node.k), room
        worth = self.worth(node, room, a)
        ground = self.spelled.makings[self.spelled.means(node, x)][2]
        while room.ground != ground:
            room = room.around
        room.names[x] = worth

    def run_tell(self, node, room, a):
        yield ("do", node.k), room
        self.told.append(self.number(node, room, a))

    def run_give(self, node, room, a):
        yield ("do", node.k), room
        raise Gave(self.worth(node, room, a))

    def run_if(self, node, room, a, one, other):
        yield ("do", node.k), room
        which = 0 if self.number(node, room, a) != 0 else 1
        yield from self.enter(node.inner[which], room)
        yield from self.run_block(node.blocks[which], self.room)

    def run_while(self, node, room, a, block):
        while True:
            yield ("do", node.k), room
            if self.number(node, room, a) == 0:
                return
            yield from self.enter(node.inner[0], room)
            yield from self.run_block(node.blocks[0], self.room)

    def run_times(self, node, room, mode, x, a, block):
        yield ("do", node.k), room
        limit = self.number(node, room, a)
        if mode == "own":
            number = 0
            while number < limit:
                yield from self.enter(node.inner[0], room)
                self.room.names[x] = number
                yield from self.run_block(node.blocks[0], self.room)
                yield ("step", node.k), room
                number = (number + 1) % WIDE
            return
        yield from self.enter(node.head, room)
        head = self.room
        head.names[x] = 0
        while head.names[x] < limit:
            yield from self.enter(node.inner[0], head)
            yield from self.run_block(node.blocks[0], self.room)
            yield ("step", node.k), head
            if isinstance(head.names[x], Closure):
                raise Ended(("fault", "kind", node.k))
            head.names[x] = (head.names[x] + 1) % WIDE

    def seen(self, room, m):
        """(what is seen of making m, whose it is), (None, None) where nothing is."""
        name, _, ground = self.spelled.makings[m]
        while room is not None:
            if room.ground == ground and name in room.names:
                return shown_value(room.names[name]), room.order
            room = room.around
        return None, None


def shown_value(worth):
    return ("body", worth.body, worth.order) if isinstance(worth, Closure) else worth


class Rows:
    """Point 14: rows are laid down one by one, goals being holders that are filled when their row is known."""

    def __init__(self, spelled, body):
        self.spelled, self.rows = spelled, []
        first = self.row(("in", spelled.body_grounds[body]))
        self.goals(first, self.lay(spelled.body_blocks[body], lambda: None))

    def row(self, mark):
        self.rows.append([mark, ()])
        return len(self.rows) - 1

    def goals(self, at, *goals):
        self.rows[at][1] = goals

    def told(self):
        return [(mark, tuple(goal() for goal in goals)) for mark, goals in self.rows]

    def lay(self, nodes, behind):
        """Lays down the rows of a block; told is what comes where it is gone in, asked when all are laid down."""
        comes = [len(self.rows)] if nodes else []
        starts = []
        for at, node in enumerate(nodes):
            starts.append(len(self.rows))
            self.lay_node(node, (lambda at=at: starts[at + 1] if at + 1 < len(nodes) else behind()))
        return (lambda: comes[0]) if comes else behind

    def lay_node(self, node, behind):
        k = node.k
        do = self.row(("do", k))
        if node.word == "give":
            self.goals(do)
        elif node.word == "call":
            back = self.row(("back", k))
            self.goals(do, lambda: back)
            self.goals(back, behind)
        elif node.word == "if":
            arms = []
            for ground, block in zip(node.inner, node.blocks):
                arms.append(self.row(("in", ground)))
                self.goals(arms[-1], self.lay(block, behind))
            self.goals(do, lambda: arms[0], lambda: arms[1])
        elif node.word == "while":
            into = self.row(("in", node.inner[0]))
            self.goals(into, self.lay(node.blocks[0], lambda: do))
            self.goals(do, lambda: into, behind)
        elif node.word == "times":
            self.lay_times(node, do, behind)
        else:
            self.goals(do, behind)

    def lay_times(self, node, do, behind):
        head = None if node.head is None else self.row(("in", node.head))
        into = self.row(("in", node.inner[0]))
        step = []
        self.goals(into, self.lay(node.blocks[0], lambda: step[0]))
        step.append(self.row(("step", node.k)))
        self.goals(step[0], lambda: into, behind)
        if head is None:
            self.goals(do, lambda: into, behind)
        else:
            self.goals(do, lambda: head)
            self.goals(head, lambda: into, behind)


def row_makes(spelled, mark):
    """Point 15: what a mark makes."""
    word, at = mark
    found = []
    for m, (name, k, ground) in enumerate(spelled.makings):
        node = spelled.nodes[k]
        if node.word == "times" or (node.word == "fn" and m != node.makes[0]):
            by = ("in", ground)
        elif node.word == "call":
            by = ("back", k)
        else:
            by = ("do", k)
        if by == mark:
            found.append(m)
    return tuple(found)


def row_sets(spelled, mark):
    """Point 15: what a mark sets."""
    word, at = mark
    if word == "do" and spelled.nodes[at].word == "set":
        return spelled.meant[at][0]
    if word == "step" and spelled.nodes[at].statement[1] == "one":
        return spelled.nodes[at].makes[0]
    return None


def bars(spelled, body):
    """Point 16: all statements by which the body may not be known."""
    name = spelled.nodes[spelled.bodies[body][0]].makes[0]
    found = []
    for node in spelled.nodes:
        for at, m in enumerate(spelled.meant[node.k]):
            if m == name and (node.word, at) != ("call", 0):
                found.append(node.k)
    return found


class Known:
    """Points 17 to 21 by a set of known bodies, by all ways that lead on from a body."""

    def __init__(self, spelled, known):
        self.spelled, self.known = spelled, known
        self.names = {spelled.nodes[spelled.bodies[body][0]].makes[0]: body for body in known}

    def leads(self, k):
        """The body to which a statement of a chain leads, None where none does."""
        node = self.spelled.nodes[k]
        if node.word == "call":
            return self.names.get(self.spelled.meant[k][0])
        if node.word == "fn" and node.new_body not in self.known:
            return node.new_body
        return None

    def own(self, body):
        return [node for node in self.spelled.nodes if node.body == body]

    def bodies_from(self, body, m, words):
        """The bodies, this one too, to which chains of statements of these words lead, m being made in none."""
        if m in self.names or self.spelled.body_of_making(m) == body:
            return set()
        found, waiting = {body}, [body]
        while waiting:
            for node in self.own(waiting.pop()):
                other = self.leads(node.k) if node.word in words else None
                if other is not None and other not in found and self.spelled.body_of_making(m) != other:
                    found.add(other)
                    waiting.append(other)
        return found

    def needs(self, body, m):
        around = self.bodies_from(body, m, ("call", "fn"))
        return any(m in self.spelled.meant[node.k] for node in self.spelled.nodes if node.body in around)

    def packs(self, body, m):
        return any(
            self.makes_one_that_needs(node, m) for other in self.bodies_from(body, m, ("call",))
            for node in self.own(other)
        )

    def makes_one_that_needs(self, node, m):
        return node.word == "fn" and node.new_body not in self.known and self.needs(node.new_body, m)

    def is_chain(self, body, m, road):
        if not road or m in self.names or self.spelled.body_of_making(m) == body:
            return False
        k, *rest = road
        if k not in range(len(self.spelled.nodes)) or self.spelled.nodes[k].body != body:
            return False
        if not rest:
            return m in self.spelled.meant[k]
        return self.leads(k) is not None and self.is_chain(self.leads(k), m, rest)

    def rows(self, m):
        return Rows(self.spelled, self.spelled.body_of_making(m)).told()

    def copies(self, mark, m):
        word, k = mark
        if word != "do":
            return False
        node = self.spelled.nodes[k]
        if node.word == "call" and self.leads(k) is not None:
            return self.packs(self.leads(k), m)
        return self.makes_one_that_needs(node, m)

    def sets_within(self, m):
        return [
            node.k for node in self.spelled.nodes
            if node.word == "set" and self.spelled.meant[node.k][0] == m
            and node.body != self.spelled.body_of_making(m)
        ]

    def must(self, m):
        """True where m must lie in a cell: rows that are dirty are those on a road behind a copy."""
        if m in self.names:
            return False
        if self.sets_within(m):
            return True
        rows = self.rows(m)
        reached = closed({0}, rows, set())
        remade = {at for at, row in enumerate(rows) if m in row_makes(self.spelled, row[0])}
        copies = {at for at in reached if self.copies(rows[at][0], m)}
        behind = {goal for at in copies for goal in rows[at][1] if goal is not None} - remade
        dirty = closed(behind, rows, remade)
        return any(row_sets(self.spelled, rows[at][0]) == m for at in dirty)

    def is_paper(self, m, paper):
        word, thing = paper
        if m in self.names:
            return False
        if word == "within":
            return thing in self.sets_within(m)
        rows = self.rows(m)
        if len(thing) < 2 or any(at not in range(len(rows)) for at in thing):
            return False
        return (
            all(thing[at + 1] in rows[thing[at]][1] for at in range(len(thing) - 1))
            and thing[0] in closed({0}, rows, set()) and self.copies(rows[thing[0]][0], m)
            and row_sets(self.spelled, rows[thing[-1]][0]) == m
            and not any(m in row_makes(self.spelled, rows[at][0]) for at in thing[1:])
        )


def closed(start, rows, barred):
    """All rows to which roads lead from these, through none that is barred."""
    found = set(start)
    while True:
        more = {goal for at in found for goal in rows[at][1] if goal is not None} - barred - found
        if not more:
            return found
        found |= more
