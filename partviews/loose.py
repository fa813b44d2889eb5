"""Loose rings and growing thresholds (points 20 and 21)."""

from itertools import combinations

from partviews.conflicts import parts_of, require_group_size
from partviews.errors import InvalidRing
from partviews.growing import find_growing_log
from partviews.logs import is_observer, is_pair, keep_names, names_of, require_case, require_family
from partviews.rings import with_following


def is_link(family, value):
    """Tell whether a value, any value, is a pair of a name and the number of an observer that sees it."""
    return is_pair(value) and is_observer(family, value[1]) and value[0] in family[value[1]]


def is_loose(family, ring):
    """Tell whether a tuple of pairs with different names and different observers is a loose ring of a family."""
    names = [name for name, observer in ring]
    for (name, observer), (following, other) in with_following(ring):
        if keep_names(family[observer], names) != tuple(sorted([name, following])):
            return False
    return True


def is_loose_ring(family, value):
    """Tell whether a value, any value, is a loose ring of a family."""
    require_family(family)
    if not isinstance(value, tuple) or len(value) < 2:
        return False
    if not all(is_link(family, pair) for pair in value):
        return False
    if len({name for name, observer in value}) < len(value):
        return False
    if len({observer for name, observer in value}) < len(value):
        return False
    return is_loose(family, value)


def links_of(family, names):
    """Return the list of tuples (name, observer, other name), both ways, for each who sees just two of some names."""
    found = []
    for observer, known in enumerate(family):
        seen = keep_names(known, names)
        if len(seen) == 2:
            found.append((seen[0], observer, seen[1]))
            found.append((seen[1], observer, seen[0]))
    return found


def longer_rows(rows, links):
    """Return some rows, each a tuple (pairs, name behind them), with one more pair and a further name each."""
    return [
        (pairs + ((name, observer),), other)
        for pairs, end in rows
        for name, observer, other in links
        if name == end and other not in [earlier for earlier, seer in pairs]
    ]


def ring_with(family, names):
    """Return a loose ring that has just some names, at least two, or None."""
    links = links_of(family, names)
    rows = [((), names[0])]
    for _ in names[1:]:
        rows = longer_rows(rows, links)
    for pairs, end in rows:
        for name, observer, other in links:
            # Two names can be linked back by the observer that has linked them.
            if (name, other) == (end, names[0]) and observer != pairs[0][1]:
                return pairs + ((name, observer),)
    return None


def find_longest(family):
    """Return a loose ring of what surely is a family with as many pairs as possible, or None."""
    known = names_of(family)
    for size in range(min(len(known), len(family)), 1, -1):
        for names in combinations(known, size):
            ring = ring_with(family, names)
            if ring is not None:
                return ring
    return None


def longest_loose_ring(family):
    """Return a loose ring of a family with as many pairs as possible, or None."""
    require_family(family)
    return find_longest(family)


def growing_threshold(family):
    """Return the growing threshold of a family."""
    require_family(family)
    ring = find_longest(family)
    return 1 if ring is None else len(ring)


def built_growing_case(family, ring):
    """Return the built growing case of a loose ring."""
    require_family(family)
    if not is_loose_ring(family, ring):
        raise InvalidRing("not a loose ring of the family")
    views = {observer: (name, following) for (name, observer), (following, other) in with_following(ring)}
    return tuple([(known, views.get(observer, ())) for observer, known in enumerate(family)])


def every_grows(case, number):
    """Tell whether every so many views have a growing log, or all of them if there are fewer."""
    require_case(case)
    require_group_size(number)
    # A log that begins with some views shows one for each part of them, so smaller groups need no look.
    return all(find_growing_log(part) is not None for part in parts_of(case, number))
