"""Rows: the marks of a body, and what may come behind each."""

from fourbind.looking import Looked
from fourbind.trees import Tree

# The mark that comes behind the last statement of a loop's block.
AGAIN = {"while": "do", "times": "step"}


def mark_in(tree, ground, k):
    """The mark of statement k of this ground; where k is None, the one behind the ground's block."""
    while k is None:
        kind, around_k, around = tree.ground_rows[ground]
        if kind == "body":
            return None
        if kind in AGAIN:
            return (AGAIN[kind], around_k)
        ground = around
        k = tree.nexts.get(around_k)
    return ("do", k)


def mark_behind(tree, k):
    """The mark that comes where statement k is over, None at the body's end."""
    return mark_in(tree, tree.places[k].ground, tree.nexts.get(k))


def block_or_over(tree, kind, k):
    """The goals of a mark behind which a loop's block comes, or the loop is over."""
    return [("in", tree.inner[(kind, k)]), mark_behind(tree, k)]


def goals_of_in(tree, ground):
    kind, k, around = tree.ground_rows[ground]
    if kind == "head":
        return block_or_over(tree, "times", k)
    block = tree.blocks[ground]
    return [mark_in(tree, ground, block[0] if block else None)]


def goals_of_do(tree, k):
    statement = tree.places[k].statement
    word = statement[0]
    if word == "give":
        return []
    if word == "call":
        return [("back", k)]
    if word == "if":
        return [("in", tree.inner[("one", k)]), ("in", tree.inner[("other", k)])]
    if word == "times" and statement[1] == "one":
        return [("in", tree.inner[("head", k)])]
    if word in AGAIN:
        return block_or_over(tree, word, k)
    return [mark_behind(tree, k)]


def goal_marks(tree, mark):
    """The marks that may come behind this one in its body, None for the body's end."""
    word, at = mark
    if word == "in":
        return goals_of_in(tree, at)
    if word == "do":
        return goals_of_do(tree, at)
    if word == "step":
        return block_or_over(tree, "times", at)
    return [mark_behind(tree, at)]


def ground_at_hand(tree, mark):
    """The ground in whose room the mark is done."""
    word, at = mark
    if word == "in":
        return tree.ground_rows[at][2]
    if word == "step":
        return tree.ground_rows[tree.inner[("times", at)]][2]
    return tree.places[at].ground


def made_at(tree, mark):
    """The makings of the mark, rising."""
    word, at = mark
    if word == "in":
        k, ground = tree.ground_rows[at][1], at
    else:
        k, ground = at, tree.places[at].ground
    if k is None or (word == "do" and tree.places[k].statement[0] == "call"):
        return ()
    # Params and the x of a times are in another ground than their statement: made where that is gone in.
    return tuple([m for m in tree.made[k] if tree.making_rows[m][2] == ground])


def set_at(looked, mark):
    """The making that the mark sets, None where it sets none."""
    word, at = mark
    if word not in ("do", "step"):
        return None
    statement = looked.places[at].statement
    if word == "do" and statement[0] == "set":
        return looked.meanings[at][0]
    if word == "step" and statement[1] == "one":
        return looked.made[at][0]
    return None


def marks_within(tree, mark):
    """The marks that stand right within what the mark begins, in reading order."""
    word, at = mark
    if word == "in":
        kind, k, around = tree.ground_rows[at]
        if kind == "head":
            return [("in", tree.inner[("times", k)])]
        return [("do", k) for k in tree.blocks[at]]
    if word != "do":
        return []
    statement = tree.places[at].statement
    if statement[0] == "call":
        return [("back", at)]
    if statement[0] == "if":
        return goals_of_do(tree, at)
    if statement[0] == "while":
        return [("in", tree.inner[("while", at)])]
    if statement[0] == "times":
        return [goals_of_do(tree, at)[0], ("step", at)]
    return []


def marks_in(tree, body):
    """The marks of a body, each in the place of its row."""
    fn, params = tree.body_rows[body]
    found = []
    pile = [("in", tree.inner[("body", fn)])]
    while pile:
        mark = pile.pop()
        found.append(mark)
        pile.extend(marks_within(tree, mark)[::-1])
    return found


def rows_in(tree, body):
    """The rows of a body."""
    found = marks_in(tree, body)
    numbers = {mark: at for at, mark in enumerate(found)}
    numbers[None] = None
    return [(mark, tuple([numbers[goal] for goal in goal_marks(tree, mark)])) for mark in found]


def is_road(rows, road):
    """True where these are numbers of rows, one at least, each a goal of the one ahead."""
    if not road or any([not 0 <= at < len(rows) for at in road]):
        return False
    return all([behind in rows[ahead][1] for ahead, behind in zip(road, road[1:])])


def rows_of(program, body):
    """The rows of the body: (mark, goals), None among the goals for the body's end."""
    return rows_in(Tree(program), body)


def makes(program, mark):
    """The makings that the mark makes."""
    return made_at(Tree(program), mark)


def sets(program, mark):
    """The making that the mark sets, or None."""
    return set_at(Looked(program), mark)


def road_holds(program, body, road):
    """True where this is a road of rows of the body, from any row on."""
    return is_road(rows_in(Tree(program), body), road)
