"""Plans: which bodies are known and which makings lie in cells, and when that holds."""

from fourbind.cells import least_cells
from fourbind.errors import NoPlan
from fourbind.known import may_be_known
from fourbind.rooms import shared
from fourbind.trees import Tree

LINKED = "linked"

COPIED = "copied"

CELLED = "celled"

HANDED = "handed"

WAYS = (LINKED, COPIED, CELLED, HANDED)


class Plan:
    """Known bodies and cells, rising tuples."""

    def __init__(self, *, known=(), cells=()):
        self.known = known
        self.cells = cells

    def __eq__(self, other):
        return isinstance(other, Plan) and self.known == other.known and self.cells == other.cells

    def __repr__(self):
        return f"Plan(known={self.known!r}, cells={self.cells!r})"

    def __len__(self):
        return len(self.cells)


def look_plan(program, plan):
    """True where the plan holds for the program, else NoPlan for the first thing amiss."""
    tree = Tree(program)
    may = may_be_known(program)
    for body in plan.known:
        if body not in may:
            raise NoPlan("known", body)
    names = [tree.name_of(body) for body in plan.known]
    for m in plan.cells:
        if not 0 <= m < len(tree.making_rows) or m in names:
            raise NoPlan("cell", m)
    for m in least_cells(program, known=plan.known):
        if m not in plan.cells:
            raise NoPlan("lacks", m)
    return True


def plan_of(program, way):
    """The plan of the way, None of the linked one, which has none."""
    if way == LINKED:
        return None
    if way == COPIED:
        return Plan(cells=least_cells(program))
    if way == CELLED:
        return Plan(cells=shared(program))
    known = may_be_known(program)
    return Plan(known=known, cells=least_cells(program, known=known))
