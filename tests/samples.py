"""Programs for the tests: made by chance from a fixed seed, of the forms, let by or not; and what is made of them."""

import random

from fourbind.cells import least_cells
from fourbind.known import may_be_known
from fourbind.plans import WAYS, Plan, plan_of
from fourbind.reader import read
from fourbind.trees import bodies, makings

NAMES = ("a", "b", "f", "g", "sum", "abcdef")
SIGNS = ("+", "-", "*", "<", "=")
PLAIN = ("let", "sum", "call", "set", "tell", "give")
BLOCKED = ("fn", "if", "while", "times")


class Maker:
    """Makes one program with at most so many statements and blocks within one another."""

    def __init__(self, seed, many, deep):
        self.chance = random.Random(seed)
        self.left = many
        self.deep = deep

    def name(self):
        return self.chance.choice(NAMES)

    def atom(self):
        return self.chance.choice((self.name(), 0, 1, self.chance.randrange(10 ** 9)))

    def names(self, most):
        return tuple(self.name() for _ in range(self.chance.randint(0, most)))

    def atoms(self, most):
        return tuple(self.atom() for _ in range(self.chance.randint(0, most)))

    def block(self, depth):
        made = []
        for _ in range(self.chance.randint(0, 6)):
            if self.left:
                self.left -= 1
                made.append(self.statement(depth))
        return tuple(made)

    def program(self):
        made = []
        while self.left:
            made.extend(self.block(0))
        return tuple(made)

    def statement(self, depth):
        words = PLAIN + BLOCKED * 2 if depth < self.deep else PLAIN
        word = self.chance.choice(words)
        if word == "let" or word == "set":
            return (word, self.name(), self.atom())
        if word == "sum":
            return (word, self.name(), self.chance.choice(SIGNS), self.atom(), self.atom())
        if word == "call":
            return (word, self.name(), self.name(), self.atoms(5))
        if word == "tell" or word == "give":
            return (word, self.atom())
        if word == "fn":
            return (word, self.name(), self.names(4), self.block(depth + 1))
        if word == "if":
            return (word, self.atom(), self.block(depth + 1), self.block(depth + 1))
        if word == "while":
            return (word, self.atom(), self.block(depth + 1))
        mode = self.chance.choice(("own", "one"))
        return (word, mode, self.name(), self.atom(), self.block(depth + 1))


def sample_programs(many):
    """So many programs, small and large ones, up to the bounds of point 2."""
    return [Maker(seed, seed % 61, seed % 9).program() for seed in range(many)]


# Few, so that names are often made again within.
FEW = tuple("abcdefgh")

NUMBER = "number"


class SoundMaker:
    """Makes one program that is let by and goes on for a while: uses fit what their names were made as.

    A sort is NUMBER or (sorts of the params, sort of what is given), as far as is known where it stands.
    """

    def __init__(self, seed, many, deep):
        self.chance = random.Random(seed)
        self.left = many
        self.deep = deep
        self.grounds = [{}]
        self.gives = [None]

    def odds(self, percent):
        return self.chance.randrange(100) < percent

    def new_name(self):
        free = [name for name in FEW if name not in self.grounds[-1]]
        # More pairs than there are statements, so that one is always free.
        if not free:
            pairs = ["x" + first + second for first in FEW for second in FEW]
            free = [name for name in pairs if name not in self.grounds[-1]]
        return self.chance.choice(free)

    def make(self, sort):
        name = self.new_name()
        self.grounds[-1][name] = sort
        return name

    def in_sight(self):
        found = {}
        for ground in self.grounds:
            found.update(ground)
        return found

    def names_of(self, fits):
        return [name for name, sort in self.in_sight().items() if fits(sort)]

    def number(self):
        names = self.names_of(lambda sort: sort == NUMBER)
        if self.odds(2) and self.in_sight():
            return self.chance.choice(list(self.in_sight()))
        if names and self.odds(75):
            return self.chance.choice(names)
        return self.chance.choice((0, 1, 2, 3, self.chance.randrange(10 ** 9)))

    def atom(self, sort):
        names = self.names_of(lambda other: other == sort)
        if sort == NUMBER or not names:
            return self.number()
        return self.chance.choice(names)

    def any_sort(self):
        sorts = [sort for sort in self.in_sight().values() if sort != NUMBER]
        return self.chance.choice(sorts) if sorts and self.odds(40) else NUMBER

    def block(self, ground, most=5):
        self.grounds.append(ground)
        made = self.statements(self.chance.randint(0, most))
        self.grounds.pop()
        return made

    def statements(self, many):
        made = []
        for _ in range(many):
            if self.left > 0:
                self.left -= 1
                made.extend(self.statement())
        return tuple(made)

    def program(self):
        made = []
        while self.left > 0:
            made.extend(self.statements(4))
        return tuple(made)

    def statement(self):
        plain = ("let", "sum", "set", "set", "tell", "call", "call", "call", "give")
        blocked = ("fn", "fn", "fn", "fn", "if", "while", "times", "times")
        deep = len(self.grounds) - 1
        word = self.chance.choice(plain + blocked if deep < self.deep else plain)
        return getattr(self, "make_" + word)()

    def make_let(self):
        sort = self.any_sort()
        atom = self.atom(sort)
        return [("let", self.make(sort), atom)]

    def make_sum(self):
        sign, a, b = self.chance.choice(SIGNS), self.number(), self.number()
        return [("sum", self.make(NUMBER), sign, a, b)]

    def make_set(self):
        names = list(self.in_sight())
        if not names:
            return self.make_let()
        name = self.chance.choice(names)
        return [("set", name, self.atom(self.in_sight()[name]))]

    def make_tell(self):
        return [("tell", self.number())]

    def make_give(self):
        # The program itself should go on for a while.
        if not self.odds(35 if len(self.gives) > 1 else 5):
            return self.make_tell()
        if self.gives[-1] is None:
            self.gives[-1] = self.any_sort()
        return [("give", self.atom(self.gives[-1]))]

    def make_call(self):
        names = self.names_of(lambda sort: sort != NUMBER)
        if not names:
            return self.make_fn() if len(self.grounds) - 1 < self.deep else self.make_sum()
        name = self.chance.choice(names)
        params, gives = self.in_sight()[name]
        args = [self.atom(sort) for sort in params]
        if self.odds(2):
            args.append(self.number())
        return [("call", self.make(gives), name, tuple(args))]

    def make_fn(self):
        sorts = [self.any_sort() for _ in range(self.chance.choice((0, 0, 1, 1, 2, 3, 4)))]
        name = self.new_name()
        self.grounds[-1][name] = (tuple(sorts), NUMBER)
        params = self.chance.sample(FEW, len(sorts))
        self.grounds.append(dict(zip(params, sorts)))
        self.gives.append(None)
        block = list(self.statements(self.chance.randint(0, 6)))
        if self.odds(60) and self.left > 0:
            self.left -= 1
            if self.gives[-1] is None:
                self.gives[-1] = self.any_sort()
            block.append(("give", self.atom(self.gives[-1])))
        gives = self.gives.pop() or NUMBER
        self.grounds.pop()
        self.grounds[-1][name] = (tuple(sorts), gives)
        return [("fn", name, tuple(params), tuple(block))]

    def make_if(self):
        return [("if", self.number(), self.block({}), self.block({}, 3))]

    def make_while(self):
        """Mostly counts down a name of its own, so that it ends."""
        name = self.make(NUMBER)
        first = ("let", name, self.chance.randint(0, 3))
        self.left -= 3
        self.grounds.append({})
        less = self.make(NUMBER)
        block = self.statements(self.chance.randint(0, 4))
        made_again = name in self.grounds.pop()
        down = ("sum", less, "-", name, 1)
        if made_again:
            return [first, ("while", 0, (down, *block))]
        return [first, ("while", name, (down, *block, ("set", name, less)))]

    def make_times(self):
        mode = self.chance.choice(("own", "one"))
        limit = self.number() if self.odds(20) else self.chance.choice((0, 1, 2, 3))
        name = self.chance.choice(FEW)
        if mode == "own":
            return [("times", mode, name, limit, self.block({name: NUMBER}))]
        self.grounds.append({name: NUMBER})
        block = self.block({})
        self.grounds.pop()
        return [("times", mode, name, limit, block)]


def sound_programs(many, first=0):
    """So many programs that are let by, small and large ones, up to the bounds of point 2."""
    return [SoundMaker(seed, 4 + seed % 50, 2 + seed % 7).program() for seed in range(first, first + many)]


def rows(*texts):
    """The program of these rows."""
    return read("\n".join(texts))


# a, f, p, q, s, x, b, i, j: each form of statement.
FORMS = rows(
    "let a 1", "fn f p q", "let s p - a", "set a s", "tell q", "give s", "end", "call x f a 2", "if x", "let b x",
    "else", "tell 0", "end", "while a", "set a 0", "end", "times own i 3", "tell i", "end", "times one j x", "set j 9",
    "end",
)


def flat(thing):
    """All that lies in tuples within tuples, and the tuples too."""
    found = [thing]
    if isinstance(thing, tuple):
        for part in thing:
            found.extend(flat(part))
    return found


def knowns(program, seed):
    """Nothing known, all that may be, and some of these."""
    may = may_be_known(program)
    chance = random.Random(seed)
    some = tuple(body for body in may if chance.randrange(2))
    return sorted({(), may, some})


def spoiled(chance, road, many):
    """The road with a number otherwise, left out, put in, twice, at each place; cut off, empty, said twice."""
    found = [(), road + road, road[:1], road[1:], road[:-1]]
    for at in range(len(road) + 1):
        number = chance.randrange(-1, many + 1)
        found.append(road[:at] + (number,) + road[at:])
        if at < len(road):
            found.append(road[:at] + (number,) + road[at + 1:])
            found.append(road[:at] + road[at + 1:])
            found.append(road[:at] + (road[at],) + road[at:])
    return found


class LivelyMaker(SoundMaker):
    """Makes programs whose bodies are kept and called a lot, names being set between, so that copies get behind."""

    PLAIN = ("set",) * 4 + ("call",) * 6 + ("let", "sum", "tell", "give", "give")
    BLOCKED = ("fn",) * 5 + ("if", "while", "times", "times", "times")

    def statement(self):
        words = self.PLAIN + self.BLOCKED if len(self.grounds) <= self.deep else self.PLAIN
        return getattr(self, "make_" + self.chance.choice(words))()

    def make_set(self):
        """Mostly of a name that is made further out, and to a number that it hardly was yet."""
        found = self.in_sight()
        numbers = [name for name in found if found[name] == NUMBER]
        if not numbers or self.odds(20):
            return SoundMaker.make_set(self)
        outer = [name for name in numbers if name not in self.grounds[-1]]
        return [("set", self.chance.choice(outer or numbers), self.chance.randrange(100))]

    def any_sort(self):
        """What is given, handed and let is a body more often than not."""
        sorts = [sort for sort in self.in_sight().values() if sort != NUMBER]
        return self.chance.choice(sorts) if sorts and self.odds(65) else NUMBER

    def make_fn(self):
        """Mostly with a call right behind it."""
        made = SoundMaker.make_fn(self)
        if self.left > 0 and self.odds(60):
            self.left -= 1
            made += self.make_call()
        return made

    def make_give(self):
        return self.make_call() if len(self.gives) == 1 else SoundMaker.make_give(self)

    def program(self):
        """Behind all, sets and calls of what is in sight."""
        made = [("let", self.make(NUMBER), 1), ("let", self.make(NUMBER), 2)]
        made.extend(SoundMaker.program(self))
        for _ in range(4):
            made.extend(self.make_set() + self.make_call())
        return tuple(made)


class LoopMaker(LivelyMaker):
    """Makes bodies in arms and loops within loops, that use what is made there."""

    PLAIN = ("let", "sum", "set", "call", "call", "fn")
    BLOCKED = ("fn", "fn", "if", "if", "if", "while", "times", "times", "times", "times")

    def block(self, ground, most=4):
        self.grounds.append(ground)
        made = self.statements(self.chance.randint(2, 4))
        self.grounds.pop()
        return made

    def near_number(self):
        """One that was made in one of the nearest grounds, if there is any."""
        found = self.in_sight()
        for ground in self.chance.sample(self.grounds[-3:], min(3, len(self.grounds))):
            near = [name for name in ground if ground[name] == NUMBER and found[name] == NUMBER]
            if near:
                return self.chance.choice(near)
        return self.number()

    def make_fn(self):
        """Mostly a small one, which is always within the depth that is left, and a call behind it."""
        if len(self.grounds) <= self.deep and self.odds(40):
            return LivelyMaker.make_fn(self)
        self.left -= 3
        near = self.near_number()
        name = self.make(((), NUMBER))
        call = ("call", self.make(NUMBER), name, ())
        return [("fn", name, (), (("tell", near), ("give", near))), call]


def lively_programs(many, first=0):
    """So many programs that are let by, within the bounds of point 2, most of them with least cells."""
    found = []
    for seed in range(first, first + many):
        loops = seed % 3 == 2
        maker = LoopMaker(seed, 16 + seed % 26, 5) if loops else LivelyMaker(seed, 6 + seed % 36, 2 + seed % 3)
        found.append(maker.program())
    return found


def known_names(program, known):
    """The makings of the names of these bodies."""
    fns = [bodies(program)[body][0] for body in known]
    return [[m for m, row in enumerate(makings(program)) if row[1] == k][0] for k in fns]


def holding_plans(program, seed):
    """Plans that hold, None for the linked way ahead: those of the ways; the least cells, more, all, by known sets."""
    chance = random.Random(seed)
    found = [plan_of(program, way) for way in WAYS]
    for known in knowns(program, seed):
        names = known_names(program, known)
        free = [m for m in range(len(makings(program))) if m not in names]
        least = least_cells(program, known=known)
        for cells in (least, tuple(m for m in free if m in least or chance.randrange(2)), tuple(free)):
            plan = Plan(known=known, cells=cells)
            if plan not in found:
                found.append(plan)
    return found


def lacking_plans(program, seed):
    """Plans as in point 29, most of which don't hold: no cells, some of the least, any."""
    chance = random.Random(seed)
    found = []
    for known in knowns(program, seed):
        names = known_names(program, known)
        some = tuple(m for m in least_cells(program, known=known) if chance.randrange(2))
        few = tuple(m for m in range(len(makings(program))) if m not in names and chance.randrange(2))
        for cells in ((), some, few):
            plan = Plan(known=known, cells=cells)
            if plan not in found:
                found.append(plan)
    return found
