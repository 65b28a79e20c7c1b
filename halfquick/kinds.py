"""A list that is sorted by hand, one part after the other."""

from halfquick.common import check_values, is_whole
from halfquick.errors import InvalidPlace, NoPart, NothingToUndo
from halfquick.plans import carried_out, needed_places


class Parts:
    """A list whose parts are split by hand; whatever stands between two pivots is a part that waits."""

    def __init__(self, values):
        check_values(values)
        self.now = list(values)
        self.pivot_places = []
        self.earlier = []

    @property
    def row(self):
        """The list as it is now."""
        return list(self.now)

    @property
    def waiting(self):
        """The waiting parts, ascending, each as its first place and its length."""
        bounds = [-1] + sorted(self.pivot_places) + [len(self.now)]
        return [(low + 1, high - low - 1) for low, high in zip(bounds, bounds[1:]) if high - low > 1]

    @property
    def done(self):
        """The places at which pivots stand now, ascending."""
        return sorted(self.pivot_places)

    @property
    def needed(self):
        """The number of splits that are still needed until the list is in order."""
        return sum([len(needed_places(self.now[start:start + length])) for start, length in self.waiting])

    def split(self, place):
        """Split the waiting part that begins at a place, and return the place at which its pivot stands then."""
        if not is_whole(place) or place < 0:
            raise InvalidPlace(place)
        lengths = [length for start, length in self.waiting if start == place]
        if not lengths:
            raise NoPart(place)
        end = place + lengths[0]
        part = self.now[place:end]
        pivot_place = place + len([value for value in part if value < part[0]])
        self.earlier.append(self.now)
        self.now = self.now[:place] + carried_out([(None, None)], part) + self.now[end:]
        # A split moves values within one waiting part only, so the other pivots stand where they stood.
        self.pivot_places.append(pivot_place)
        return pivot_place

    def undo(self):
        """Take back the last split that was not taken back yet."""
        if not self.earlier:
            raise NothingToUndo("no split is left to take back")
        self.now = self.earlier.pop()
        self.pivot_places.pop()
