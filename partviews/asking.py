"""The asking workspace (point 33)."""

from partviews.errors import Full, InvalidNumber
from partviews.knowing import find_known
from partviews.logs import is_integer
from partviews.machines import require_question
from partviews.positions import find_positions
from partviews.tables import verdict_at_last
from partviews.workspace import Workspace

MOST_ASKED = 6


class Asking(Workspace):
    """A workspace of a family with asked questions."""

    def __init__(self, family):
        super().__init__(family)
        # Both are replaced, never changed, so that a mark can keep them as they are.
        self._asked = ()
        self._told = ()
        self._kept = []

    # The interface lists the calls of the workspace for this class, too, so each of them stands here.

    def see(self, observer, name):
        """Add an event to the end of the view of an observer."""
        super().see(observer, name)

    def take_back(self, observer):
        """Remove the last event of the view of an observer."""
        super().take_back(observer)

    def mark(self):
        """Make a mark, also of what was asked and told, and return its number."""
        number = super().mark()
        self._kept.append((self._asked, self._told))
        return number

    def back(self, number):
        """Return to a mark: restore its views, and what was asked and told, and remove all later marks."""
        super().back(number)
        self._asked, self._told = self._kept[number]
        self._kept = self._kept[:number + 1]

    def views(self):
        """Return the list of the views."""
        return super().views()

    def marks(self):
        """Return the ascending list of the numbers of the marks."""
        return super().marks()

    def case(self):
        """Return the case of the views."""
        return super().case()

    def log(self):
        """Return the growing log of the case of the views."""
        return super().log()

    def possible_next(self, observer):
        """Return the ascending list of the names that see would accept for an observer now."""
        return super().possible_next(observer)

    def is_whole(self):
        """Tell whether no observer misses an event."""
        return super().is_whole()

    def _verdicts_of(self, questions):
        """Return the list of the verdicts for ever of at least one question, or raise TooMany."""
        positions, chart = find_positions(self.case())
        return [verdict_at_last(positions, chart, question) for question in questions]

    def ask(self, question):
        """Ask a question and return its number."""
        require_question(self._family, question)
        if len(self._asked) >= MOST_ASKED:
            raise Full(MOST_ASKED)
        self._told = self._told + tuple(self._verdicts_of((question,)))
        self._asked = self._asked + (question,)
        return len(self._asked) - 1

    def verdicts(self):
        """Return the list of the verdicts of the asked questions."""
        return self._verdicts_of(self._asked) if self._asked else []

    def news(self):
        """Return the ascending list of tuples (number, verdict) of the news, which are told by this."""
        said = self.verdicts()
        found = [(number, now) for number, now in enumerate(said) if now != self._told[number]]
        self._told = tuple(said)
        return found

    def knowers(self, number):
        """Return the ascending list of the observers that know an asked question behind their own view."""
        if not is_integer(number) or not 0 <= number < len(self._asked):
            raise InvalidNumber("not the number of an asked question")
        question = self._asked[number]
        return [
            observer for observer, view in enumerate(self._views)
            if find_known(self._family, observer, question, view)
        ]
