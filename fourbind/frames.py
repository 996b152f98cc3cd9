"""What a machine has while it runs: cells, linked rooms, made bodies, and calls with their places."""


class Cell:
    """A cell: whoever has it sees what it is set to."""

    def __init__(self, worth):
        self.worth = worth


class LinkedRoom:
    """A roomed ground that was gone in."""

    def __init__(self, ground, around, many):
        self.ground = ground
        self.around = around
        self.slots = [None for slot in range(many)]


class Pack:
    """A made body: its number, how many fns were done ahead, and the room or the things that it bears."""

    def __init__(self, body, order, room, things):
        self.body = body
        self.order = order
        self.room = room
        self.things = things


class Frame:
    """A call that goes on: the row that comes in it, and all that its places reach."""

    def __init__(self, body, handed, around):
        self.body = body
        self.handed = handed
        self.around = around
        self.at = 0
        # The body's own makings that are made by now, each in the last room of its ground.
        self.present = {}
        # From a times to what a was, and to the round's number, which matters of an "own" alone.
        self.limits = {}
        self.rounds = {}
        self.room = None
        self.slots = []
        self.things = []
        self.me = None

    def bear(self, made):
        """Takes what the made body bears; the things in a list of this call's own."""
        self.room = made.room
        self.things = list(made.things)
        self.me = made

    def held_at(self, place):
        """What lies in the place: of a making that is a cell the cell itself."""
        word = place[0]
        if word == "room":
            return self.room_outward(place[1]).slots[place[2]]
        if word == "own":
            return self.slots[place[1]]
        if word == "thing":
            return self.things[place[1]]
        return self.me

    def hold_at(self, place, thing):
        word = place[0]
        if word == "room":
            room = self.room_outward(place[1])
            room.slots[place[2]] = thing
        elif word == "own":
            self.slots[place[1]] = thing
        elif word == "thing":
            self.things[place[1]] = thing
        else:
            self.me = thing

    def room_outward(self, many):
        room = self.room
        for hop in range(many):
            room = room.around
        return room

    def worth_of(self, atom):
        """What a number or a place in a deed is worth."""
        if atom[0] == "num":
            return atom[1]
        if atom[0] == "cell":
            return self.held_at(atom[1]).worth
        return self.held_at(atom)

    def make_at(self, place, worth):
        """A cell is made anew each time."""
        if place[0] == "cell":
            self.hold_at(place[1], Cell(worth))
        else:
            self.hold_at(place, worth)

    def set_to(self, place, worth):
        if place[0] == "cell":
            cell = self.held_at(place[1])
            cell.worth = worth
        else:
            self.hold_at(place, worth)
