"""Bare rings of a family (point 11)."""

from itertools import combinations

from partviews.logs import names_of, require_family


def share(family, names):
    """Tell whether a name set of a family contains all of some names."""
    return any(all(name in known for name in names) for known in family)


def are_neighbours(at, other, length):
    """Tell whether two different places are side by side in a ring of so many names."""
    return (at - other) % length == 1 or (other - at) % length == 1


def is_bare(family, ring):
    """Tell whether a tuple of at least three different names is a bare ring of a family."""
    if len(ring) == 3 and share(family, ring):
        return False
    for at in range(len(ring)):
        for other in range(at):
            if share(family, (ring[at], ring[other])) != are_neighbours(at, other, len(ring)):
                return False
    return True


def is_bare_ring(family, value):
    """Tell whether a value, any value, is a bare ring of a family."""
    require_family(family)
    known = names_of(family)
    if not isinstance(value, tuple) or not 3 <= len(value) <= len(known):
        return False
    if not all(name in known for name in value):
        return False
    if len(set(value)) < len(value):
        return False
    return is_bare(family, value)


def ring_from_least(family, names):
    """Return some ascending names as a row in which each name shares a name set with the next one.

    The row goes on with the least name that is left, which gives the normal
    form if the names make a bare ring. None if the row does not reach all.
    """
    ring = names[:1]
    while len(ring) < len(names):
        left = [name for name in names if name not in ring and share(family, (ring[-1], name))]
        if not left:
            return None
        ring = ring + (left[0],)
    return ring


def bare_rings(family):
    """Return the list of all bare rings of a family in normal form, shorter first."""
    require_family(family)
    known = names_of(family)
    found = []
    for size in range(3, len(known) + 1):
        rings = []
        # Some names make one bare ring at most: the family tells which of them are neighbours.
        for names in combinations(known, size):
            ring = ring_from_least(family, names)
            if ring is not None and is_bare(family, ring):
                rings.append(ring)
        found.extend(sorted(rings))
    return found
