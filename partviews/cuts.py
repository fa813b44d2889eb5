"""The cuts of a possible case (point 28), and the logs that fit counted along them."""

from partviews.certain import find_before
from partviews.joining import require_possible
from partviews.logs import family_of, is_integer, names_of
from partviews.tables import chart_of

MOST_CUTS = 300


class Cuts:
    """The cuts of what surely is a possible case."""

    def __init__(self, case):
        self.names = names_of(family_of(case))
        # For each event how many events of each name are certainly before it.
        self.before = {
            event: tuple([counts.get(name, 0) for name in self.names]) for event, counts in find_before(case).items()
        }
        self.first = tuple([0 for name in self.names])
        self.last = tuple([len([1 for other, k in self.before if other == name]) for name in self.names])

    def fits_behind(self, event, cut):
        """Tell whether some value is an event and all events that are certainly before it are in a cut."""
        return event in self.before and all(low <= many for low, many in zip(self.before[event], cut))

    def is_place(self, value):
        """Tell whether a value, any value, is a cut."""
        if not isinstance(value, tuple) or len(value) != len(self.names):
            return False
        if not all(is_integer(many) for many in value):
            return False
        return all(many == 0 or self.fits_behind((name, many), value) for name, many in zip(self.names, value))

    def moves(self, cut):
        """Return the list of tuples (k, further cut) of the cuts to which a cut goes on by the name k."""
        return [
            (k, cut[:k] + (many + 1,) + cut[k + 1:])
            for k, many in enumerate(cut)
            if self.fits_behind((self.names[k], many + 1), cut)
        ]


def find_cuts(case):
    """Return the cuts of what surely is a case, and their chart, or raise Impossible or TooMany."""
    require_possible(case)
    cuts = Cuts(case)
    return (cuts, chart_of(cuts, MOST_CUTS))


class Choice:
    """The chosen logs of a case: those that fit and to which a question has one answer."""

    def __init__(self, cuts, chart, question, answer):
        self.cuts = cuts
        self.chart = chart
        self.steps = question[1]
        # For each cut how many chosen logs go on from it in each state.
        self.ways = {}
        for cut in sorted(chart, reverse=True):
            if chart[cut]:
                self.ways[cut] = [sum([self.ways[target][row[k]] for k, target in chart[cut]]) for row in self.steps]
            else:
                self.ways[cut] = [1 if said == answer else 0 for said in question[0]]

    def many(self):
        """Return the number of the chosen logs."""
        return self.ways[self.cuts.first][0]

    def further(self, cut, state):
        """Return the list of tuples (name, next cut, next state, how many chosen logs go on from there)."""
        row = self.steps[state]
        return [(self.cuts.names[k], target, row[k], self.ways[target][row[k]]) for k, target in self.chart[cut]]

    def log_at(self, place):
        """Return the chosen log with a place from 0 to their number less 1."""
        log = ()
        moves = self.further(self.cuts.first, 0)
        while moves:
            name, cut, state, many = moves[0]
            if place < many:
                log = log + (name,)
                moves = self.further(cut, state)
            else:
                place = place - many
                moves = moves[1:]
        return log

    def place_of(self, log):
        """Return the number of chosen logs that stand before a log in ascending order."""
        cut, state, place = self.cuts.first, 0, 0
        for name in log:
            if not self.chart[cut]:
                # The log is a longer one than the log that fits and that it begins with.
                return place + self.ways[cut][state]
            moves = self.further(cut, state)
            place = place + sum([many for other, target, behind, many in moves if other < name])
            same = [(target, behind) for other, target, behind, many in moves if other == name]
            if not same:
                return place
            cut, state = same[0]
        return place


def find_choice(case, question, answer):
    """Return the choice of the logs of what surely is a case with an answer, or raise Impossible or TooMany."""
    cuts, chart = find_cuts(case)
    return Choice(cuts, chart, question, answer)
