"""The points of the document once more, by other means: what the tests compare the program with.

Nothing here uses the program. Logs are made by reading the views side by
side, certain orders by looking at all logs, rings by counting steps.
"""

from itertools import combinations, permutations


def all_names(case):
    return sorted({name for names, _ in case for name in names})


def kept(log, names):
    return tuple(name for name in log if name in names)


def step(case, places, name):
    """Read a name in all views that see it, or return None if it is not next in one of them."""
    moved = list(places)
    for at, (names, view) in enumerate(case):
        if name in names:
            if places[at] == len(view) or view[places[at]] != name:
                return None
            moved[at] += 1
    return tuple(moved)


def logs(case):
    """All logs that fit a small case, in ascending order."""
    names = all_names(case)
    end = tuple(len(view) for _, view in case)
    found = []

    def go(places, log):
        if places == end:
            found.append(log)
            return
        for name in names:
            moved = step(case, places, name)
            if moved is not None:
                go(moved, log + (name,))

    go((0,) * len(case), ())
    return found


def number_of_logs(case):
    names = all_names(case)
    end = tuple(len(view) for _, view in case)
    known = {}

    def go(places):
        if places == end:
            return 1
        if places not in known:
            moves = [step(case, places, name) for name in names]
            known[places] = sum(go(moved) for moved in moves if moved is not None)
        return known[places]

    return go((0,) * len(case))


def least(case):
    """The least log of a case of any size, or None: whatever is next can also be taken later."""
    names = all_names(case)
    places = (0,) * len(case)
    log = []
    while places != tuple(len(view) for _, view in case):
        moves = [(name, step(case, places, name)) for name in names]
        moves = [(name, moved) for name, moved in moves if moved is not None]
        if not moves:
            return None
        log.append(moves[0][0])
        places = moves[0][1]
    return tuple(log)


def count_conflicts(case):
    found = []
    for i, j in combinations(range(len(case)), 2):
        for name in set(case[i][0]) & set(case[j][0]):
            if case[i][1].count(name) != case[j][1].count(name):
                found.append((name, i, j))
    return sorted(found)


def row_of(view):
    """The events of a view, or of a log, in their order."""
    counts = {}
    row = []
    for name in view:
        counts[name] = counts.get(name, 0) + 1
        row.append((name, counts[name]))
    return row


def events(case):
    return sorted({event for _, view in case for event in row_of(view)})


def edges(case):
    """A dict from each event to the dict {later event: observers that have seen both}."""
    found = {event: {} for event in events(case)}
    for i, (_, view) in enumerate(case):
        for one, other in combinations(row_of(view), 2):
            found[one].setdefault(other, []).append(i)
    return found


def reached(case):
    """A dict from each event to the set of events that rows lead to from it."""
    direct = edges(case)
    found = {}
    for event in direct:
        seen = set()
        left = [event]
        while left:
            for other in direct[left.pop()]:
                if other not in seen:
                    seen.add(other)
                    left.append(other)
        found[event] = seen
    return found


def ring_length(case):
    """The length of a shortest ring, or None."""
    return cycle_length(edges(case))


def cycle_length(direct):
    ends = {event: {event} for event in direct}
    for length in range(1, len(direct) + 1):
        for event in ends:
            ends[event] = {other for end in ends[event] for other in direct[end]}
            if event in ends[event]:
                return length
    return None


def is_plain_int(value):
    return type(value) is int


def are_steps(case, value):
    """Whether a value is a list of at least two steps (name, k, i) with different events and numbers of observers."""
    if type(value) is not list or len(value) < 2:
        return False
    for entry in value:
        if type(entry) is not tuple or len(entry) != 3 or type(entry[0]) is not str:
            return False
        if not is_plain_int(entry[1]) or not is_plain_int(entry[2]):
            return False
        if entry[2] not in range(len(case)):
            return False
    heads = [entry[:2] for entry in value]
    return len(set(heads)) == len(heads)


def is_ring(case, value):
    if not are_steps(case, value):
        return False
    heads = [entry[:2] for entry in value]
    for at, (name, k, i) in enumerate(value):
        row = row_of(case[i][1])
        other = heads[(at + 1) % len(heads)]
        if (name, k) not in row or other not in row or row.index((name, k)) >= row.index(other):
            return False
    return True


def part(case, group):
    return tuple(case[i] for i in group)


def together(case, group):
    return not group or least(part(case, group)) is not None


def every(case, number):
    size = min(number, len(case))
    return all(together(case, group) for group in combinations(range(len(case)), size))


def minimal_conflicts(case):
    groups = [group for size in range(len(case) + 1) for group in combinations(range(len(case)), size)]
    bad = [group for group in groups if not together(case, group)]
    return [group for group in bad if not any(set(other) < set(group) for other in bad)]


def is_bare(family, ring):
    """Whether a tuple of different names of a family is a bare ring."""
    if len(ring) < 3:
        return False
    for at, one in enumerate(ring):
        for by, other in enumerate(ring):
            if at != by:
                shared = [names for names in family if one in names and other in names]
                near = abs(at - by) in (1, len(ring) - 1)
                if near and not shared:
                    return False
                if not near and shared:
                    return False
    if len(ring) == 3:
        return not any(set(ring) <= set(names) for names in family)
    return True


def bare_rings(family):
    names = sorted({name for known in family for name in known})
    shared = {(a, b) for known in family for a in known for b in known if a != b}
    found = []

    def go(row):
        if len(row) >= 3 and row[1] < row[-1] and is_bare(family, row):
            found.append(row)
        for name in names:
            if name > row[0] and name not in row and (row[-1], name) in shared:
                go(row + (name,))

    for name in names:
        go((name,))
    return sorted(found, key=lambda ring: (len(ring), ring))


def bare_rings_slowly(family):
    """The same for few names, from all rows of names."""
    names = sorted({name for known in family for name in known})
    found = []
    for size in range(3, len(names) + 1):
        for row in permutations(names, size):
            if row[0] == min(row) and row[1] < row[-1] and is_bare(family, row):
                found.append(row)
    return found
