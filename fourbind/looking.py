"""What is in sight, what uses mean, and which programs are let by."""

from fourbind.errors import NoProgram
from fourbind.trees import Tree


class Sight:
    """The makings ahead, ground by ground, while the statements are gone through in reading order."""

    # So no place within a ground need be kept: what was made there by now is ahead.

    def __init__(self, tree):
        self.tree = tree
        self.ahead = [{} for row in tree.ground_rows]

    def nearest(self, ground, name):
        """The making that a use of the name in this ground means, None where it isn't in sight."""
        while ground is not None:
            if name in self.ahead[ground]:
                return self.ahead[ground][name]
            ground = self.tree.ground_rows[ground][2]
        return None

    def is_twice(self, m):
        name, k, ground = self.tree.making_rows[m]
        return name in self.ahead[ground]

    def put_ahead(self, m):
        name, k, ground = self.tree.making_rows[m]
        self.ahead[ground][name] = m

    def understood(self, place):
        """The atoms of the statement in this place: ("num", n) of a number, ("use", making) of a use."""
        found = []
        for atom in atoms_of(place.statement):
            if isinstance(atom, str):
                found.append(("use", self.nearest(place.ground, atom)))
            else:
                found.append(("num", atom))
        return found


class Looked(Tree):
    """A program that is let by, with what each of its uses means."""

    def __init__(self, program):
        Tree.__init__(self, program)
        self.atoms = []
        sight = Sight(self)
        for k, place in enumerate(self.places):
            self.atoms.append(sight.understood(place))
            for m in self.made[k]:
                sight.put_ahead(m)
        self.meanings = [tuple([thing for sort, thing in row if sort == "use"]) for row in self.atoms]


def atoms_of(statement):
    """The names and numbers that the statement uses, in order."""
    word = statement[0]
    if word == "fn":
        return ()
    if word == "let":
        return statement[2:]
    if word == "sum":
        return statement[3:]
    if word == "call":
        return (statement[2], *statement[3])
    if word in ("if", "while"):
        return statement[1:2]
    if word == "times":
        return statement[3:4]
    return statement[1:]


def look_at(sight, k, place):
    """Refuses statement k, where something is amiss with it; what it makes is ahead from now on."""
    for atom in atoms_of(place.statement):
        if isinstance(atom, str) and sight.nearest(place.ground, atom) is None:
            raise NoProgram("unknown", k, atom)
    for m in sight.tree.made[k]:
        if sight.is_twice(m):
            raise NoProgram("twice", k, sight.tree.making_rows[m][0])
        sight.put_ahead(m)


def look(program):
    """True where the program is let by, else NoProgram for the first thing amiss."""
    tree = Tree(program)
    sight = Sight(tree)
    for k, place in enumerate(tree.places):
        look_at(sight, k, place)
    return True


def meant(program):
    """For each statement the makings that its uses mean."""
    return Looked(program).meanings
