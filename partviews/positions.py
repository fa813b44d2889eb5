"""The positions of a growing case (point 30)."""

from partviews.errors import Impossible
from partviews.growing import find_growing_log
from partviews.logs import family_of, is_integer, names_of
from partviews.tables import chart_of

MOST_POSITIONS = 1000


class Positions:
    """The positions of what surely is a case."""

    def __init__(self, case):
        self.rows = case
        self.names = names_of(family_of(case))
        self.first = tuple([0 for names, view in case])
        self.last = tuple([len(view) for names, view in case])

    def is_place(self, value):
        """Tell whether a value, any value, is a position."""
        if not isinstance(value, tuple) or len(value) != len(self.last):
            return False
        return all(is_integer(read) and 0 <= read <= most for read, most in zip(value, self.last))

    def behind(self, position, name):
        """Return the position to which a position goes on by a name, or None if it does not."""
        further = []
        for read, (names, view) in zip(position, self.rows):
            reads = name in names and read < len(view)
            if reads and view[read] != name:
                return None
            further.append(read + 1 if reads else read)
        return tuple(further)

    def moves(self, position):
        """Return the list of tuples (k, further position) of those to which a position goes on by the name k."""
        targets = [self.behind(position, name) for name in self.names]
        return [(k, target) for k, target in enumerate(targets) if target is not None]


def require_growing(case):
    """Raise Impossible if what surely is a case has no growing log."""
    if find_growing_log(case) is None:
        raise Impossible("no log begins with the views")


def find_positions(case):
    """Return the positions of what surely is a case, and the chart of those that logs lead to.

    Raise Impossible or TooMany.
    """
    require_growing(case)
    positions = Positions(case)
    return (positions, chart_of(positions, MOST_POSITIONS))
