"""Linked rooms: which makings are shared, which grounds have rooms, and where each making lies."""

from fourbind.needs import Web

# The sorts of the grounds of which rounds are gone in again and again.
LOOPS = ("while", "times")


class Rooms:
    """A program, nothing being known, with the grounds that have rooms."""

    def __init__(self, program):
        self.web = Web(program, ())
        self.looked = self.web.looked
        self.sharing = {m: True for needed in self.web.needed for m in needed}
        # From each roomed ground to why it is one. A ground stands behind those around it, so these are in by then.
        self.whys = {}
        for ground, row in enumerate(self.looked.ground_rows):
            why = self.reason(ground)
            if row[0] == "body" or why is not None:
                self.whys[ground] = why
        # From each roomed ground to the makings with this home: where one stands is its slot.
        self.kept = {ground: [] for ground in self.whys}
        for m in range(len(self.looked.making_rows)):
            self.kept[self.home_ground(m)].append(m)

    def reason(self, ground):
        """The first shared making right in the ground and the nearest loop between, None where one lacks."""
        loop = self.loop_between(ground)
        if loop is None:
            return None
        for m, row in enumerate(self.looked.making_rows):
            if row[2] == ground and m in self.sharing:
                return (m, loop)
        return None

    def loop_between(self, ground):
        """The statement of the nearest loop between the ground and the roomed one around it, None of none."""
        kind, k, around = self.looked.ground_rows[ground]
        while kind != "body":
            if kind in LOOPS:
                return k
            if around in self.whys:
                return None
            kind, k, around = self.looked.ground_rows[around]
        return None

    def nearest_roomed(self, ground):
        """The nearest roomed ground, from this one outward."""
        while ground not in self.whys:
            ground = self.looked.ground_rows[ground][2]
        return ground

    def home_ground(self, m):
        return self.nearest_roomed(self.looked.making_rows[m][2])

    def slot(self, m):
        return self.kept[self.home_ground(m)].index(m)

    def hops_from(self, ground, m):
        """How many roomed grounds lie from the room at hand in this ground outward to the home of m."""
        goal = self.home_ground(m)
        here = self.nearest_roomed(ground)
        many = 0
        while here != goal:
            here = self.nearest_roomed(self.looked.ground_rows[here][2])
            many += 1
        return many

    def hops_of(self, k):
        """The hops of the uses of statement k."""
        ground = self.looked.places[k].ground
        return tuple([self.hops_from(ground, m) for m in self.looked.meanings[k]])


def shared(program):
    """The makings that some body needs, nothing being known, rising."""
    return tuple(sorted(Rooms(program).sharing))


def roomed(program):
    """The roomed grounds, rising."""
    return tuple(sorted(Rooms(program).whys))


def why_room(program, ground):
    """Why the ground is roomed: a shared making in it, and a loop; None of a body's, and of one that isn't."""
    return Rooms(program).whys.get(ground)


def home(program, m):
    """The ground in whose room m lies, and its slot there."""
    rooms = Rooms(program)
    return (rooms.home_ground(m), rooms.slot(m))


def hops(program, k):
    """For each use of statement k how many rooms outward it goes."""
    return Rooms(program).hops_of(k)
