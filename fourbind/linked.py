"""Programs made with linked rooms."""

from fourbind.deeds import made_bodies
from fourbind.rooms import Rooms


class Links:
    """The binding by rooms: each place is so many rooms outward."""

    def __init__(self, program):
        self.rooms = Rooms(program)
        self.web = self.rooms.web

    def head(self, body):
        """How many slots the room of the body's ground has."""
        fn, params = self.web.looked.body_rows[body]
        return self.room_size(self.web.looked.inner[("body", fn)])

    def room_size(self, ground):
        """How many slots the ground's room has, None where it has no room."""
        return len(self.rooms.kept[ground]) if ground in self.rooms.kept else None

    def place(self, body, ground, m):
        return ("room", self.rooms.hops_from(ground, m), self.rooms.slot(m))

    def bears(self, body, other):
        """Nothing: a made body bears the room at hand."""
        return ()


def linked(program):
    """The made bodies of the program, with linked rooms."""
    return made_bodies(Links(program))
