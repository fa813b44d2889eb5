"""Groups of observers that answer a question (point 27)."""

from itertools import combinations

from partviews.bare import share
from partviews.conflicts import groups_of
from partviews.logs import is_observer, keep_names, names_of, require_family
from partviews.machines import require_log_of, require_question
from partviews.needs import both_ways, find_need_logs, find_needed_names, find_needed_pairs
from partviews.wrongs import InvalidGroup


def is_group(family, value):
    """Tell whether a value, any value, is a group of what surely is a family."""
    if not isinstance(value, tuple) or not all(is_observer(family, entry) for entry in value):
        return False
    return all(low < high for low, high in zip(value, value[1:]))


def require_group(family, value):
    """Raise InvalidFamily if a value is not a family, InvalidGroup if another one is not a group of it."""
    require_family(family)
    if not is_group(family, value):
        raise InvalidGroup("not a group of the family")


def sets_of(family, group):
    """Return the list of the name sets of a group."""
    return [family[observer] for observer in group]


def find_same(family, group, log, other):
    """Tell whether two logs look the same to a group, where nothing is wrong with the arguments."""
    return all(keep_names(log, names) == keep_names(other, names) for names in sets_of(family, group))


def look_same(family, group, log, other):
    """Tell whether two logs look the same to a group."""
    require_group(family, group)
    require_log_of(family, log)
    require_log_of(family, other)
    return find_same(family, group, log, other)


def needs_of(family, question):
    """Return the list of what a question needs: tuples of one name, and then of two names together."""
    return [(name,) for name in find_needed_names(family, question)] + find_needed_pairs(family, question)


def unmet_by(family, group, needs):
    """Return the list of those of some tuples of names that belong to no common name set of a group."""
    known = sets_of(family, group)
    return [names for names in needs if not share(known, names)]


def unmet_needs(family, group, question):
    """Raise what is wrong with a group or a question, or return what the group lacks to answer the question."""
    require_group(family, group)
    require_question(family, question)
    return unmet_by(family, group, needs_of(family, question))


def does_answer(family, group, question):
    """Tell whether a group answers a question."""
    return not unmet_needs(family, group, question)


def parting_logs(family, group, question):
    """Return two logs that look the same to a group and have different answers, or None."""
    unmet = unmet_needs(family, group, question)
    if not unmet:
        return None
    first, second = find_need_logs(family, question, unmet[0])
    return both_ways(first, unmet[0], second)


def all_groups(family):
    """Return the list of all groups of a family, shorter first."""
    return [group for size in range(len(family) + 1) for group in groups_of(family, size)]


def is_least(family, group, needs):
    """Tell whether a group meets some needs, but not with any of its observers less."""
    if unmet_by(family, group, needs):
        return False
    return all(unmet_by(family, group[:at] + group[at + 1:], needs) for at in range(len(group)))


def is_greatest(family, group, needs):
    """Tell whether a group does not meet some needs, but does with any further observer."""
    if not unmet_by(family, group, needs):
        return False
    further = [observer for observer in range(len(family)) if observer not in group]
    return not any(unmet_by(family, group + (observer,), needs) for observer in further)


def least_groups(family, question):
    """Return the list of the least groups that answer a question, shorter first."""
    require_question(family, question)
    needs = needs_of(family, question)
    return [group for group in all_groups(family) if is_least(family, group, needs)]


def greatest_groups(family, question):
    """Return the list of the greatest groups that do not answer a question, shorter first."""
    require_question(family, question)
    needs = needs_of(family, question)
    return [group for group in all_groups(family) if is_greatest(family, group, needs)]


def further_names(family, group, question):
    """Return the ascending tuple of the names that a group lacks, alone or together, to answer a question."""
    return tuple(sorted({name for names in unmet_needs(family, group, question) for name in names}))


def unseen_by(family, group, other):
    """Raise what is wrong with two groups, or return what the other one sees and the first one does not.

    It is a list of tuples of one name, and then of two names that are seen together.
    """
    require_group(family, group)
    require_group(family, other)
    names = names_of(family)
    looks = [(name,) for name in names] + list(combinations(names, 2))
    known = sets_of(family, other)
    return unmet_by(family, group, [look for look in looks if share(known, look)])


def sees_as_much(family, group, other):
    """Tell whether a group sees as much as another one."""
    return not unseen_by(family, group, other)


def short_logs(family, group, other):
    """Return two logs of at most two names that look the same to a group and not to another one, or None."""
    unseen = unseen_by(family, group, other)
    if not unseen:
        return None
    return both_ways((), unseen[0], ())


def row_of_latest(family, look, state):
    """Return the next states from a state: 1 by the first of one or two names, 0 by the second one."""
    return tuple([(1 if name == look[0] else 0) if name in look else state for name in names_of(family)])


def telling_question(family, group, other):
    """Return a question that another group answers and a group does not, or None."""
    unseen = unseen_by(family, group, other)
    if not unseen:
        return None
    # Whether the name has happened, or whether the last one of both names is the first of the two.
    return ((False, True), (row_of_latest(family, unseen[0], 0), row_of_latest(family, unseen[0], 1)))
