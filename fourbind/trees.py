"""What stands in a program: statements, bodies, grounds and makings, numbered in reading order."""


class Block:
    """A block still to be read: the ground that it will get, its body, the statements inside."""

    def __init__(self, kind, k, around, body, inside):
        self.kind = kind
        self.k = k
        self.around = around
        self.body = body
        self.inside = inside


class Place:
    """A statement where it stands: in which ground, and of which body it is an own one."""

    def __init__(self, statement, ground, body):
        self.statement = statement
        self.ground = ground
        self.body = body


class Tree:
    """A program read through once: where a thing stands in its list is its number."""

    def __init__(self, program):
        self.places = []
        self.body_rows = [(None, ())]
        self.ground_rows = []
        self.making_rows = []
        # For each ground the statements right in it, for each statement its makings.
        self.blocks = []
        self.made = []
        # From a statement to the next one of its block, from (sort, k) to a ground, from a fn to its body.
        self.nexts = {}
        self.inner = {}
        self.fn_bodies = {None: 0}
        # A pile, not calls within calls: blocks may lie within one another however deep.
        pile = [Block("body", None, None, 0, program)]
        while pile:
            part = pile.pop()
            inner = self.enter(part) if isinstance(part, Block) else self.meet(part)
            pile.extend(inner[::-1])

    def enter(self, block):
        """Numbers the block's ground, and tells its statements as places."""
        ground = self.begin_ground(block.kind, block.k, block.around)
        return [Place(statement, ground, block.body) for statement in block.inside]

    def meet(self, place):
        """Numbers the statement and what it makes, and tells its blocks."""
        statement, around, body = place.statement, place.ground, place.body
        k = self.stand(place)
        self.make(made_by(statement, k, around, len(self.ground_rows)))
        if statement[0] == "fn":
            body = self.begin_body(k, statement[2])
        if statement[0] == "times" and statement[1] == "one":
            around = self.begin_ground("head", k, around)
        return [Block(kind, k, around, body, inside) for kind, inside in blocks_of(statement)]

    def stand(self, place):
        """Numbers the statement, behind the one ahead of it in its block."""
        k = len(self.places)
        self.places.append(place)
        block = self.blocks[place.ground]
        if block:
            self.nexts[block[-1]] = k
        block.append(k)
        return k

    def make(self, rows):
        """Numbers the makings of the statement that stands last."""
        first = len(self.making_rows)
        self.making_rows.extend(rows)
        self.made.append(list(range(first, len(self.making_rows))))

    def begin_body(self, k, params):
        body = len(self.body_rows)
        self.body_rows.append((k, params))
        self.fn_bodies[k] = body
        return body

    def begin_ground(self, kind, k, around):
        ground = len(self.ground_rows)
        self.ground_rows.append((kind, k, around))
        self.blocks.append([])
        self.inner[(kind, k)] = ground
        return ground

    def maker(self, m):
        """The body in which making m is made."""
        kind, k, around = self.ground_rows[self.making_rows[m][2]]
        while kind != "body":
            kind, k, around = self.ground_rows[around]
        return self.fn_bodies[k]

    def name_of(self, body):
        """The making of the body's name, None of body 0."""
        fn, params = self.body_rows[body]
        return None if fn is None else self.made[fn][0]


def blocks_of(statement):
    """The blocks in a statement, in order, each behind the sort of its ground."""
    word = statement[0]
    if word == "fn":
        return [("body", statement[3])]
    if word == "if":
        return [("one", statement[2]), ("other", statement[3])]
    if word == "while":
        return [("while", statement[2])]
    if word == "times":
        return [("times", statement[4])]
    return []


def made_by(statement, k, ground, following):
    """The makings of statement k, which stands in this ground; following is the ground numbered next."""
    # A statement's first block is read right behind it, so the ground numbered next is that
    # block's or, of a times "one", the head's: the one with the params, or with the x.
    word = statement[0]
    if word in ("let", "sum", "call"):
        return [(statement[1], k, ground)]
    if word == "fn":
        return [(statement[1], k, ground)] + [(name, k, following) for name in statement[2]]
    if word == "times":
        return [(statement[2], k, following)]
    return []


def statements(program):
    """All statements, in reading order."""
    return [place.statement for place in Tree(program).places]


def body_at(program, k):
    """The number of the body of which statement k is an own one."""
    return Tree(program).places[k].body


def bodies(program):
    """For each body (k, params): k is its fn's number, None of the program's own."""
    return Tree(program).body_rows


def grounds(program):
    """For each ground (sort, k, around): of which block, of which statement, within which ground."""
    return Tree(program).ground_rows


def makings(program):
    """For each making (name, k, ground): by which statement, in which ground."""
    return Tree(program).making_rows
