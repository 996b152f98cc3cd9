"""Bills: what each mark costs, as (hops, opens, copies, cells, packs, rooms)."""

from fourbind.flow import made_at, marks_in
from fourbind.linked import Links
from fourbind.packed import Packing


def all_marks(tree):
    """The marks of all bodies."""
    return [mark for body in range(len(tree.body_rows)) for mark in marks_in(tree, body)]


def linked_cost(links, mark):
    """What the mark costs with linked rooms."""
    word, at = mark
    if word == "in":
        return (0, 0, 0, 0, 0, 1 if at in links.rooms.whys else 0)
    if word != "do":
        return (0, 0, 0, 0, 0, 0)
    packs = 1 if links.web.looked.places[at].statement[0] == "fn" else 0
    return (sum(links.rooms.hops_of(at)), 0, 0, 0, packs, 0)


def opens_at(packing, mark):
    """How many times the mark goes into a cell."""
    looked = packing.web.looked
    word, at = mark
    if word == "do":
        return len([m for m in looked.meanings[at] if m in packing.cells])
    # A step looks at the x of a "one" and sets it; the round's number of an "own" lies in no cell.
    if word == "step" and looked.places[at].statement[1] == "one" and looked.made[at][0] in packing.cells:
        return 2
    return 0


def packed_cost(packing, mark):
    """What the mark costs by a plan."""
    looked = packing.web.looked
    word, at = mark
    cells = len([m for m in made_at(looked, mark) if m in packing.cells])
    copies = packs = 0
    given_to = packing.web.step_from(at) if word == "do" else None
    if given_to is not None:
        copies = len(packing.things[given_to])
        packs = 1 if looked.places[at].statement[0] == "fn" else 0
    return (0, opens_at(packing, mark), copies, cells, packs, 0)


def bill(program, *, plan=None):
    """From each mark to what it costs, with linked rooms or by a plan."""
    if plan is None:
        links = Links(program)
        return {mark: linked_cost(links, mark) for mark in all_marks(links.web.looked)}
    packing = Packing(program, plan)
    return {mark: packed_cost(packing, mark) for mark in all_marks(packing.web.looked)}
