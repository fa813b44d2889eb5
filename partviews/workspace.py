"""The workspace: growing views that never contradict each other (point 17)."""

from partviews.errors import Contradiction, Full, InvalidMark, NothingSeen, NotSeen, TooLong
from partviews.growing import find_growing_log, find_missing
from partviews.logs import MOST_NAMES_IN_VIEW, is_integer, require_family, require_observer

MOST_MARKS = 6


def case_of(family, views):
    """Return the case of the views of the observers of a family."""
    return tuple(zip(family, views))


def with_view(views, observer, view):
    """Return some views with another view of one observer."""
    return views[:observer] + (view,) + views[observer + 1:]


class Workspace:
    """A workspace of a family."""

    def __init__(self, family):
        require_family(family)
        self._family = family
        # Views are replaced, never changed, so that a mark can keep them as they are.
        self._views = tuple([() for names in family])
        self._marks = []

    def _views_behind(self, observer, name):
        """Return the views with one more event, or None if they would have no growing log."""
        views = with_view(self._views, observer, self._views[observer] + (name,))
        if find_growing_log(case_of(self._family, views)) is None:
            return None
        return views

    def _is_full(self, observer):
        """Tell whether there is no room in the view of an observer."""
        return len(self._views[observer]) >= MOST_NAMES_IN_VIEW

    def see(self, observer, name):
        """Add an event to the end of the view of an observer."""
        require_observer(self._family, observer)
        if name not in self._family[observer]:
            raise NotSeen(name)
        if self._is_full(observer):
            raise TooLong("the view has 20 events")
        views = self._views_behind(observer, name)
        if views is None:
            raise Contradiction("no log begins with these views")
        self._views = views

    def take_back(self, observer):
        """Remove the last event of the view of an observer."""
        require_observer(self._family, observer)
        view = self._views[observer]
        if not view:
            raise NothingSeen("the view is empty")
        self._views = with_view(self._views, observer, view[:-1])

    def mark(self):
        """Make a mark and return its number."""
        if len(self._marks) >= MOST_MARKS:
            raise Full(MOST_MARKS)
        self._marks.append(self._views)
        return len(self._marks) - 1

    def back(self, number):
        """Return to a mark: restore its views, keep it, and remove all later ones."""
        if not is_integer(number) or not 0 <= number < len(self._marks):
            raise InvalidMark(number)
        self._views = self._marks[number]
        self._marks = self._marks[:number + 1]

    def views(self):
        """Return the list of the views."""
        return list(self._views)

    def marks(self):
        """Return the ascending list of the numbers of the marks."""
        return list(range(len(self._marks)))

    def case(self):
        """Return the case of the views."""
        return case_of(self._family, self._views)

    def log(self):
        """Return the growing log of the case of the views."""
        return find_growing_log(self.case())

    def possible_next(self, observer):
        """Return the ascending list of the names that see would accept for an observer now."""
        require_observer(self._family, observer)
        if self._is_full(observer):
            return []
        return [name for name in self._family[observer] if self._views_behind(observer, name) is not None]

    def is_whole(self):
        """Tell whether no observer misses an event."""
        return not any(find_missing(self.case()))
