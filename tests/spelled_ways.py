"""The points on rooms and made programs once more (24 to 26), to set the program against.

Nothing here is taken from the package.
"""

from spelled import Known, Rows, row_makes


class Rooms:
    """Points 24, 25."""

    def __init__(self, spelled):
        self.spelled, self.many = spelled, range(len(spelled.makings))
        slow = Known(spelled, ())
        self.needed = [{m for m in self.many if slow.needs(body, m)} for body in range(len(spelled.bodies))]
        self.shared = set().union(*self.needed)
        self.roomed = [ground for ground in range(len(spelled.grounds)) if self.has_room(ground)]

    def outward(self, ground):
        """The grounds from this one on, the outermost last."""
        around = self.spelled.grounds[ground][2]
        return [ground] + ([] if around is None else self.outward(around))

    def has_room(self, ground):
        return self.spelled.grounds[ground][0] == "body" or self.why(ground) is not None

    def why(self, ground):
        """The pair of point 24, None of a body's ground, and where there is no room."""
        if self.spelled.grounds[ground][0] == "body":
            return None
        loops = []
        for here in self.outward(ground):
            if here != ground and self.has_room(here):
                break
            sort, k, _ = self.spelled.grounds[here]
            if sort in ("while", "times"):
                loops.append(k)
        inside = [m for m in self.many if self.spelled.makings[m][2] == ground and m in self.shared]
        return (inside[0], loops[0]) if inside and loops else None

    def rooms_outward(self, ground):
        return [here for here in self.outward(ground) if here in self.roomed]

    def home(self, m):
        return self.rooms_outward(self.spelled.makings[m][2])[0]

    def slots(self, ground):
        """The makings with this home."""
        return [m for m in self.many if self.home(m) == ground]

    def hops(self, ground, m):
        return self.rooms_outward(ground).index(self.home(m))


class LinkedRows:
    """Point 26, linked."""

    def __init__(self, spelled):
        self.spelled, self.rooms, self.known = spelled, Rooms(spelled), ()

    def head(self, body):
        return len(self.rooms.slots(self.spelled.body_grounds[body]))

    def many(self, ground):
        return len(self.rooms.slots(ground)) if ground in self.rooms.roomed else None

    def place(self, body, ground, m):
        return ("room", self.rooms.hops(ground, m), self.rooms.slots(self.rooms.home(m)).index(m))

    def called(self, k):
        return None

    def goes_along(self, body, other):
        return ()


class PackedRows:
    """Point 26, by a plan."""

    def __init__(self, spelled, known, cells):
        self.spelled, self.known, self.cells = spelled, known, cells
        self.slow = Known(spelled, known)
        self.makings = range(len(spelled.makings))
        bodies = range(len(spelled.bodies))
        self.needed = [[m for m in self.makings if self.slow.needs(body, m)] for body in bodies]
        self.slots = [self.kept_in(body) for body in bodies]
        self.things = [self.given_to(body) for body in bodies]

    def own_name(self, body):
        k = self.spelled.bodies[body][0]
        return None if k is None else self.spelled.nodes[k].makes[0]

    def kept_in(self, body):
        return [m for m in self.makings if self.spelled.body_of_making(m) == body and m not in self.slow.names]

    def given_to(self, body):
        free = self.own_name(body) if body not in self.known else None
        return [m for m in self.needed[body] if not (m == free and m not in self.cells)]

    def head(self, body):
        return (tuple(self.slots[body]), tuple(self.things[body]))

    def many(self, ground):
        return None

    def bare(self, body, m):
        for word, where in (("own", self.slots[body]), ("thing", self.things[body])):
            if m in where:
                return (word, where.index(m))
        assert m == self.own_name(body)
        return ("me",)

    def place(self, body, ground, m):
        return ("cell", self.bare(body, m)) if m in self.cells else self.bare(body, m)

    def called(self, k):
        return self.slow.leads(k)

    def goes_along(self, body, other):
        return tuple(self.bare(body, m) for m in self.things[other])


def made_program(way):
    """Point 26: all made bodies, by one of the two classes above."""
    bodies = range(len(way.spelled.bodies))
    return tuple((way.head(body), tuple(
        (mark, deed(way, body, mark), goals) for mark, goals in Rows(way.spelled, body).told()
    )) for body in bodies)


def deed(way, body, mark):
    word, at = mark
    spelled = way.spelled
    if word == "in":
        sort = spelled.grounds[at][0]
        places = tuple(way.place(body, at, m) for m in row_makes(spelled, mark))
        if sort == "body":
            return ("begin", way.many(at), places)
        return ("enter", way.many(at), *(places or (None,)))
    node = spelled.nodes[at]
    if word == "back":
        return ("bind", way.place(body, node.ground, node.makes[0]))
    if word == "step":
        return ("step", None if node.head is None else way.place(body, node.head, node.makes[0]))
    return deed_do(way, body, node)


def deed_do(way, body, node):
    meant = iter(way.spelled.meant[node.k])

    def atom(part):
        return way.place(body, node.ground, next(meant)) if isinstance(part, str) else ("num", part)

    word, *parts = node.statement
    if word == "fn":
        b = node.new_body
        if b in way.known:
            return ("known", b)
        return ("fn", way.place(body, node.ground, node.makes[0]), b, way.goes_along(body, b))
    if word == "call":
        b = way.called(node.k)
        if b is not None:
            next(meant)
            return ("go", b, tuple(atom(part) for part in parts[2]), way.goes_along(body, b))
        return ("call", atom(parts[1]), tuple(atom(part) for part in parts[2]))
    if word == "let":
        return ("let", way.place(body, node.ground, node.makes[0]), atom(parts[1]))
    if word == "sum":
        return ("sum", way.place(body, node.ground, node.makes[0]), parts[1], atom(parts[2]), atom(parts[3]))
    if word == "set":
        return ("set", atom(parts[0]), atom(parts[1]))
    if word == "times":
        return ("times", parts[0], atom(parts[2]))
    return (word, atom(parts[0]))
