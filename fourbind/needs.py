"""What bodies need and may pack, by a set of known bodies, and the chains that show why."""

from fourbind.looking import Looked


class Web:
    """A program by a set of known bodies: which body leads to which, what each needs, what known ones may pack."""

    def __init__(self, program, known):
        self.looked = Looked(program)
        self.known = known
        # From the makings of the known ones' names to their bodies.
        self.names = {self.looked.name_of(body): body for body in known}
        self.steps = [[] for row in self.looked.body_rows]
        for k, place in enumerate(self.looked.places):
            if self.step_from(k) is not None:
                self.steps[place.body].append(k)
        self.needed = self.spread(self.used(), self.links(("call", "fn")))
        self.packed = self.spread(self.packed_by_fns(), self.links(("call",)))

    def step_from(self, k):
        """The known body that k calls, or the one, not known, that it makes; else None."""
        word = self.looked.places[k].statement[0]
        if word == "call":
            return self.names.get(self.looked.meanings[k][0])
        if word == "fn" and self.looked.fn_bodies[k] not in self.known:
            return self.looked.fn_bodies[k]
        return None

    def links(self, words):
        """For each body those to which its own statements of these words lead."""
        found = []
        for steps in self.steps:
            found.append([self.step_from(k) for k in steps if self.looked.places[k].statement[0] in words])
        return found

    def from_outside(self, body, m):
        """True where m isn't made in the body, and isn't a known one's name."""
        return m not in self.names and self.looked.maker(m) != body

    def used(self):
        """For each body what its own statements use, as keys."""
        found = [{} for row in self.looked.body_rows]
        for k, place in enumerate(self.looked.places):
            for m in self.looked.meanings[k]:
                if self.from_outside(place.body, m):
                    found[place.body][m] = True
        return found

    def packed_by_fns(self):
        """For each body what the bodies need that it makes, and that aren't known."""
        made = self.links(("fn",))
        found = []
        for body, inner in enumerate(made):
            found.append({m: True for other in inner for m in self.needed[other] if self.from_outside(body, m)})
        return found

    def spread(self, found, links):
        """The least sets that have what is found, and what the linked bodies' have that is from outside."""
        changed = True
        while changed:
            changed = False
            for body, others in enumerate(links):
                lacking = [m for other in others for m in found[other] if m not in found[body]]
                for m in lacking:
                    if self.from_outside(body, m):
                        found[body][m] = True
                        changed = True
        return found

    def first_use(self, body, m):
        """The first own statement of the body that uses m, None where none does."""
        for k, place in enumerate(self.looked.places):
            if place.body == body and m in self.looked.meanings[k]:
                return k
        return None


def needs(program, *, known=()):
    """From each body to the makings that it needs, rising."""
    needed = Web(program, known).needed
    return {body: tuple(sorted(needed[body])) for body in range(len(needed))}


def packs(program, *, known=()):
    """From each known body to the makings that it may pack, rising."""
    packed = Web(program, known).packed
    return {body: tuple(sorted(packed[body])) for body in known}


def chain(program, body, m, *, known=()):
    """A chain from the body to a use of m, without a statement twice; None where there is none."""
    web = Web(program, known)
    if not web.from_outside(body, m):
        return None
    # Nearest bodies first, each once: so no statement comes twice.
    ways = {body: ()}
    waiting = [body]
    while waiting:
        here = waiting.pop(0)
        last = web.first_use(here, m)
        if last is not None:
            return (*ways[here], last)
        for k in web.steps[here]:
            there = web.step_from(k)
            if there not in ways and web.from_outside(there, m):
                ways[there] = (*ways[here], k)
                waiting.append(there)
    return None


def chain_holds(program, body, m, road, *, known=()):
    """True where the road is a chain for the body and m."""
    web = Web(program, known)
    places = web.looked.places
    here = body
    for at, k in enumerate(road):
        # Where the statement ahead leads nowhere, here is None, and no statement's body.
        if not 0 <= k < len(places) or places[k].body != here or not web.from_outside(here, m):
            return False
        if at == len(road) - 1:
            return m in web.looked.meanings[k]
        here = web.step_from(k)
    return False
