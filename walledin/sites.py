"""Sites: yards in which a mason sets walls step by step."""

from walledin.checks import room_check, wall_check, yard_check
from walledin.errors import BadRoom, CannotSet, NothingToUndo
from walledin.lots import only_open
from walledin.walks import has_walk
from walledin.yards import every_number, free_distances, sides_of, without


def can_finish_from(yard, lot, room):
    """Tell whether a mason in a room can set all walls of a lot, whose gaps alone are open, and stand outside."""
    return has_walk(only_open(yard, lot), room)


def safe_walls(yard, lot, room):
    """Return the lot of the walls that a mason in a room can set next so that it still can set all others of a lot."""
    near = free_distances(yard, lot, (room,))
    found = []
    for number in lot:
        rest = without(lot, number)
        stands = [side for side in sides_of(yard[1][number]) if side in near]
        if any(can_finish_from(yard, rest, side) for side in stands):
            found.append(number)
    return tuple(found)


class Site:
    """A yard, whose gaps are all open at first, and a mason who stands in a room."""

    def __init__(self, yard, room):
        yard_check(yard)
        room_check(yard, room)
        self._yard = yard
        self._gaps = every_number(yard)
        self._done = ()
        self._room = room
        # What the gaps, the walls that are set and the room were ahead of each step that can be taken back.
        self._past = []

    @property
    def gaps(self):
        """The lot of the open gaps."""
        return self._gaps

    @property
    def done(self):
        """The tuple of the walls that are set, in order."""
        return self._done

    @property
    def room(self):
        """The room in which the mason stands."""
        return self._room

    @property
    def undoable(self):
        """How many steps can be taken back."""
        return len(self._past)

    def walk(self, room):
        """Let the mason walk through open gaps to a room."""
        room_check(self._yard, room)
        if room not in free_distances(self._yard, self._gaps, (self._room,)):
            raise BadRoom()
        self._past.append((self._gaps, self._done, self._room))
        self._room = room

    def put(self, number):
        """Let the mason set a wall from the room in which it stands."""
        wall_check(self._yard, number)
        if number not in self._gaps or self._room not in sides_of(self._yard[1][number]):
            raise CannotSet()
        self._past.append((self._gaps, self._done, self._room))
        self._gaps = without(self._gaps, number)
        self._done = self._done + (number,)

    def undo(self):
        """Take the last step back that was not taken back."""
        if not self._past:
            raise NothingToUndo()
        self._gaps, self._done, self._room = self._past.pop()

    def can_finish(self):
        """Tell whether the mason can set all other walls and stand outside at last."""
        return can_finish_from(self._yard, self._gaps, self._room)

    def safe(self):
        """Return the lot of the walls one of which the mason can set next, when it has walked, and still finish."""
        return safe_walls(self._yard, self._gaps, self._room)
