"""Points 12 to 17 and 19 to 21 once more, by other means, as in tests/reference.py. Nothing here uses the program."""

from itertools import combinations, permutations

from tests import reference


def names_of(family):
    return sorted({name for known in family for name in known})


def family_of(case):
    return tuple(names for names, _ in case)


def threshold(family):
    if all(not set(one) & set(other) for one, other in combinations(family, 2)):
        return 1
    return max([2] + [len(ring) for ring in reference.bare_rings(family)])


def open_pairs(family):
    pairs = combinations(names_of(family), 2)
    return [pair for pair in pairs if not any(set(pair) <= set(known) for known in family)]


def built_case(family, ring):
    """The built case of a bare ring, from the two orders in which each observer could have seen its names of it."""
    turns = [ring[at:] + ring[:at] for at in range(len(ring))]
    case = []
    for known in family:
        seen = set(ring) & set(known)
        if len(seen) == 2:
            case.append((known, [turn[:2] for turn in turns if set(turn[:2]) == seen][0]))
        else:
            case.append((known, tuple(seen)))
    return tuple(case)


def begins(case, log):
    if not set(log) <= set(names_of(family_of(case))):
        return False
    for names, view in case:
        row = reference.kept(log, names)
        if len(row) < len(view) or any(one != other for one, other in zip(row, view)):
            return False
    return True


def most_seen(case):
    return {
        name: max(view.count(name) for names, view in case if name in names) for name in names_of(family_of(case))
    }


def grown(case, places, name):
    """The places behind one more name of a log that begins with the views, or None if it can not follow."""
    moved = list(places)
    for at, (names, view) in enumerate(case):
        if name in names and places[at] < len(view):
            if view[places[at]] != name:
                return None
            moved[at] += 1
    return tuple(moved)


def growing_logs(case):
    """All logs that begin with the views of a small case and have no event that nobody has seen, ascending."""
    most = most_seen(case)
    size = sum(most.values())
    found = []

    def go(places, log):
        if len(log) == size:
            found.append(log)
            return
        for name in sorted(most):
            moved = grown(case, places, name)
            if moved is not None and log.count(name) < most[name]:
                go(moved, log + (name,))

    go((0,) * len(case), ())
    return found


def growing_log(case):
    """The growing log of a case of any size, or None: what can come next can also come later."""
    left = most_seen(case)
    places = (0,) * len(case)
    log = []
    while any(left.values()):
        names = [name for name in sorted(left) if left[name] and grown(case, places, name) is not None]
        if not names:
            return None
        log.append(names[0])
        left[names[0]] -= 1
        places = grown(case, places, names[0])
    return tuple(log)


def misses(case):
    found = []
    for names, view in case:
        seen = set(reference.row_of(view))
        found.append([event for event in reference.events(case) if event[0] in names and event not in seen])
    return found


def growing_edges(case):
    """A dict from each event to the dict {event that a growing ring can go on to: observers for this step}."""
    found = reference.edges(case)
    for i, (names, view) in enumerate(case):
        for event in reference.row_of(view):
            for other in misses(case)[i]:
                found[event].setdefault(other, []).append(i)
    return found


def growing_ring_length(case):
    return reference.cycle_length(growing_edges(case))


def is_growing_ring(case, value, direct=None):
    """The edges of the case are found again only if they are not given."""
    if not reference.are_steps(case, value):
        return False
    direct = direct or growing_edges(case)
    for at, (name, k, i) in enumerate(value):
        target = value[(at + 1) % len(value)][:2]
        if (name, k) not in reference.row_of(case[i][1]) or i not in direct[(name, k)].get(target, []):
            return False
    return True


def every_grows(case, number):
    size = min(number, len(case))
    return all(
        growing_log(reference.part(case, group)) is not None for group in combinations(range(len(case)), size)
    )


def possible_views(case, names):
    views = [reference.kept(log, names) for log in reference.logs(case)]
    return [(view, views.count(view)) for view in sorted(set(views))]


def best_pair(case):
    if len(reference.logs(case)) == 1:
        return None
    pairs = list(combinations(names_of(family_of(case)), 2))
    worst = [max(many for _, many in possible_views(case, pair)) for pair in pairs]
    return pairs[worst.index(min(worst))]


def is_loose(family, ring):
    """Whether a tuple of at least two pairs of names and numbers of observers is a loose ring."""
    names = [name for name, _ in ring]
    watchers = [observer for _, observer in ring]
    if len(ring) < 2 or len(set(names)) < len(names) or len(set(watchers)) < len(watchers):
        return False
    for at, (name, observer) in enumerate(ring):
        if set(family[observer]) & set(names) != {name, names[(at + 1) % len(names)]}:
            return False
    return True


def loose_rings(family):
    """All loose rings that begin with the least of their names: names are passed on from observer to observer."""
    found = []

    def go(watchers, names):
        # Further names only add to what an observer sees too much of.
        if any(len(set(family[watcher]) & set(names)) > 2 for watcher in watchers):
            return
        last = set(family[watchers[-1]])
        if len(watchers) > 1 and names[0] in last and names[0] == min(names):
            ring = tuple(zip(names, watchers))
            if is_loose(family, ring):
                found.append(ring)
        for observer, known in enumerate(family):
            if observer not in watchers:
                for name in sorted(last & set(known)):
                    if name not in names:
                        go(watchers + (observer,), names + (name,))

    for observer, known in enumerate(family):
        for name in known:
            go((observer,), (name,))
    return found


def growing_threshold(family):
    return max([1] + [len(ring) for ring in loose_rings(family)])


def all_orders(family, counts):
    """All cases of a family whose observers have each seen so many events of each name, in any order."""
    cases = [()]
    for known in family:
        row = [name for name in known for _ in range(counts.get(name, 0))]
        views = sorted(set(permutations(row)))
        cases = [case + ((known, view),) for case in cases for view in views]
    return cases
