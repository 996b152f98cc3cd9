"""Four at once: the plain reading and a machine of each way, side by side."""

from fourbind.machine import Machine
from fourbind.plain import Plain
from fourbind.plans import WAYS, plan_of
from fourbind.trees import makings


class Four:
    """A program's plain reading and its machines, which go on together."""

    def __init__(self, program):
        self.reading = Plain(program)
        self.machines = {way: Machine(program, plan=plan_of(program, way)) for way in WAYS}
        self.many_makings = len(makings(program))

    def turn(self):
        """Does the mark that comes, in all; True where one more comes behind it."""
        for way in WAYS:
            self.machines[way].turn()
        return self.reading.turn()

    def apart(self):
        """The first way whose machine is apart from the plain reading, None where none is."""
        for way in WAYS:
            if self.is_apart(self.machines[way]):
                return way
        return None

    def mark(self):
        """The mark that comes in the plain reading, None at the end."""
        return self.reading.mark()

    def end(self):
        """The end of the plain reading, None while a mark comes."""
        return self.reading.end()

    def seen(self, way, m):
        """What the machine of the way has in hand under making m."""
        return self.machines[way].seen(m)

    def costs(self, way):
        """What the machine of the way has cost by now."""
        return self.machines[way].costs()

    def is_apart(self, machine):
        reading = self.reading
        if machine.mark() != reading.mark() or machine.end() != reading.end() or machine.told() != reading.told():
            return True
        in_hand = [m for m in range(self.many_makings) if machine.seen(m) is not None]
        return any([machine.seen(m) != reading.seen(m) for m in in_hand])
