"""Programs made by a plan: with packs of copies, cells, and things handed in."""

from fourbind.deeds import made_bodies
from fourbind.needs import Web


class Packing:
    """The binding by a plan: each place is a slot of the call, or one of the things that its body was given."""

    def __init__(self, program, plan):
        self.web = Web(program, plan.known)
        self.cells = plan.cells
        looked = self.web.looked
        self.slots = [[] for row in looked.body_rows]
        for m in range(len(looked.making_rows)):
            if m not in self.web.names:
                self.slots[looked.maker(m)].append(m)
        self.things = [self.things_of(body) for body in range(len(looked.body_rows))]

    def things_of(self, body):
        """What the body needs, rising; not its own name, which it is itself, but where others may see it set."""
        name = self.web.looked.name_of(body)
        return [m for m in sorted(self.web.needed[body]) if m != name or m in self.cells]

    def head(self, body):
        return (tuple(self.slots[body]), tuple(self.things[body]))

    def room_size(self, ground):
        """None: there are no rooms."""
        return None

    def bare_place(self, body, m):
        """Where m, or the cell in which it lies, is for the body."""
        if m in self.slots[body]:
            return ("own", self.slots[body].index(m))
        if m in self.things[body]:
            return ("thing", self.things[body].index(m))
        return ("me",)

    def place(self, body, ground, m):
        bare = self.bare_place(body, m)
        return ("cell", bare) if m in self.cells else bare

    def bears(self, body, other):
        """The places, in the body, of the other's things: a cell goes as it is."""
        return tuple([self.bare_place(body, m) for m in self.things[other]])


def packed(program, plan):
    """The made bodies of the program, by the plan."""
    return made_bodies(Packing(program, plan))
