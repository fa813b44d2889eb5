"""The checker of certificates (point 18)."""

from partviews.bare import is_bare_ring
from partviews.errors import NotACertificate
from partviews.growing import begins
from partviews.logs import fits, is_log, is_observer, require_case, require_family
from partviews.rings import is_ring

ENTRIES = {"log": 3, "count": 5, "ring": 3, "bare": 3, "growing": 3}


def first_wrong(conditions):
    """Return the result for some conditions: the number of the first one that does not hold counts."""
    for k, holds in enumerate(conditions):
        if not holds:
            return ("wrong", k)
    return ("right",)


def check_log(case, log):
    """Check the entries of a certificate "log"."""
    require_case(case)
    right = is_log(log)
    return first_wrong([right, right and fits(case, log)])


def check_growing(case, log):
    """Check the entries of a certificate "growing"."""
    require_case(case)
    right = is_log(log)
    return first_wrong([right, right and begins(case, log)])


def have_seen_both(case, name, i, j):
    """Tell whether two values are different numbers of observers that both see a name."""
    if not is_observer(case, i) or not is_observer(case, j) or i == j:
        return False
    return name in case[i][0] and name in case[j][0]


def check_count(case, name, i, j):
    """Check the entries of a certificate "count"."""
    require_case(case)
    right = have_seen_both(case, name, i, j)
    return first_wrong([right, right and case[i][1].count(name) != case[j][1].count(name)])


def check_ring(case, ring):
    """Check the entries of a certificate "ring"."""
    require_case(case)
    return first_wrong([is_ring(case, ring)])


def check_bare(family, ring):
    """Check the entries of a certificate "bare"."""
    require_family(family)
    return first_wrong([is_bare_ring(family, ring)])


CHECKS = {
    "log": check_log, "count": check_count, "ring": check_ring, "bare": check_bare, "growing": check_growing,
}


def require_certificate(value):
    """Raise NotACertificate if a value, any value, has not the form of a certificate."""
    if not isinstance(value, tuple) or not value or not isinstance(value[0], str):
        raise NotACertificate("not a tuple that begins with a string")
    if ENTRIES.get(value[0]) != len(value):
        raise NotACertificate("not one of the five certificates with its number of entries")


def check(certificate):
    """Return ("right",), or ("wrong", k) with the number k of the first condition that does not hold."""
    require_certificate(certificate)
    kind, *entries = certificate
    action = CHECKS[kind]
    return action(*entries)
