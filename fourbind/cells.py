"""Which makings must lie in cells, by a set of known bodies, and the papers that show why."""

from fourbind.flow import is_road, made_at, rows_in, set_at
from fourbind.needs import Web


class Ledger:
    """A program by a set of known bodies, with the rows of all its bodies."""

    def __init__(self, program, known):
        self.web = Web(program, known)
        self.looked = self.web.looked
        self.rows = [rows_in(self.looked, body) for body in range(len(self.looked.body_rows))]

    def rows_for(self, m):
        """The rows of the body in which m is made."""
        return self.rows[self.looked.maker(m)]

    def is_copy(self, mark, m):
        """True where a row of this mark copies m."""
        word, k = mark
        there = self.web.step_from(k) if word == "do" else None
        if there is None:
            return False
        if self.looked.places[k].statement[0] == "fn":
            return m in self.web.needed[there]
        return m in self.web.packed[there]

    def copies(self, m):
        """The numbers of the rows that copy m."""
        return [at for at, row in enumerate(self.rows_for(m)) if self.is_copy(row[0], m)]

    def makers(self, m):
        """The numbers of the rows that make m."""
        return [at for at, row in enumerate(self.rows_for(m)) if m in made_at(self.looked, row[0])]

    def setters(self, m):
        """The numbers of the rows that set m."""
        return [at for at, row in enumerate(self.rows_for(m)) if set_at(self.looked, row[0]) == m]

    def reached_copies(self, m):
        """The numbers of the rows that copy m and to which a road leads from row 0."""
        reached = roads_from(self.rows_for(m), [0], [])
        return [at for at in self.copies(m) if at in reached]

    def is_set_within(self, k, m):
        """True where statement k is a set of m in a body in which m isn't made."""
        place = self.looked.places[k]
        if place.statement[0] != "set" or place.body == self.looked.maker(m):
            return False
        return self.looked.meanings[k][0] == m

    def paper_for(self, m):
        """A paper for m, None where it need not lie in a cell."""
        for k in range(len(self.looked.places)):
            if self.is_set_within(k, m):
                return ("within", k)
        roads = roads_from(self.rows_for(m), self.reached_copies(m), self.makers(m))
        for at in self.setters(m):
            if at in roads:
                return ("behind", roads[at])
        return None

    def is_road_behind(self, m, road):
        """True where the road leads from a row that copies m to one that sets it, none but the first making it."""
        if len(road) < 2 or not is_road(self.rows_for(m), road):
            return False
        if road[0] not in self.reached_copies(m) or road[-1] not in self.setters(m):
            return False
        remade = self.makers(m)
        return not any([at in remade for at in road[1:]])


def roads_from(rows, starts, barred):
    """From each row to which a road leads from a start, no row but the first barred, to the first such road."""
    roads = {at: (at,) for at in starts}
    waiting = list(starts)
    while waiting:
        here = waiting.pop(0)
        for goal in rows[here][1]:
            if goal is not None and goal not in roads and goal not in barred:
                roads[goal] = (*roads[here], goal)
                waiting.append(goal)
    return roads


def copying(program, m, *, known=()):
    """The numbers of the rows that copy m, rising, of the body in which it is made."""
    return Ledger(program, known).copies(m)


def least_cells(program, *, known=()):
    """The makings that must lie in cells, rising."""
    ledger = Ledger(program, known)
    return tuple([m for m in range(len(ledger.looked.making_rows)) if ledger.paper_for(m) is not None])


def why_cell(program, m, *, known=()):
    """A paper for m, None where it need not lie in a cell."""
    return Ledger(program, known).paper_for(m)


def paper_holds(program, m, paper, *, known=()):
    """True where this is a paper for m."""
    ledger = Ledger(program, known)
    word, thing = paper
    if word == "within":
        return 0 <= thing < len(ledger.looked.places) and ledger.is_set_within(thing, m)
    return ledger.is_road_behind(m, thing)
