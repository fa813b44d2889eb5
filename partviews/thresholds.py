"""Thresholds, built cases and complete families (points 12 to 14)."""

from itertools import combinations

from partviews.bare import bare_rings, is_bare_ring, share
from partviews.errors import InvalidRing
from partviews.logs import names_of, require_family
from partviews.rings import with_following


def share_any(family):
    """Tell whether two observers of a family share a name."""
    return len(names_of(family)) < sum([len(names) for names in family])


def threshold(family):
    """Return the threshold of a family."""
    require_family(family)
    # Where no two observers share a name, no two name sets can make a ring either.
    if not share_any(family):
        return 1
    return max([2] + [len(ring) for ring in bare_rings(family)])


def built_view(ring, names):
    """Return what an observer with a name set has seen in the built case of a bare ring."""
    for name, following in with_following(ring):
        if name in names and following in names:
            return (name, following)
    # No name set has two names of a bare ring that are not neighbours.
    return tuple([name for name in ring if name in names])


def built_case(family, ring):
    """Return the built case of a bare ring, in the order in which the ring is given."""
    require_family(family)
    if not is_bare_ring(family, ring):
        raise InvalidRing("not a bare ring of the family")
    return tuple([(names, built_view(ring, names)) for names in family])


def find_open_pair(family):
    """Return the least pair of names of what surely is a family that belong to no common name set, or None."""
    for pair in combinations(names_of(family), 2):
        if not share(family, pair):
            return pair
    return None


def is_complete(family):
    """Tell whether every two different names of a family belong to a common name set."""
    require_family(family)
    return find_open_pair(family) is None


def open_pair(family):
    """Return the least pair of names of a family that belong to no common name set, or None."""
    require_family(family)
    return find_open_pair(family)
