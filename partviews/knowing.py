"""What observers know of questions (points 31 and 32)."""

from itertools import combinations

from partviews.groups import require_group
from partviews.logs import keep_names, names_of, require_family, require_observer
from partviews.machines import both_of, require_log_of, require_question
from partviews.states import MOST_STATES, least_of, question_in, walk_from
from partviews.tables import are_states, came_from, way_to
from partviews.wrongs import InvalidGroup


def require_some(family, value):
    """Raise InvalidFamily if a value is not a family, InvalidGroup if another one is not a group of it, or is ()."""
    require_group(family, value)
    if not value:
        raise InvalidGroup("no observer")


def require_knower(family, observer, question):
    """Raise InvalidFamily, InvalidObserver or InvalidQuestion if an argument is not what it has to be."""
    require_family(family)
    require_observer(family, observer)
    require_question(family, question)


def require_knowers(family, group, question):
    """Raise InvalidFamily, InvalidGroup or InvalidQuestion if an argument is not what it has to be."""
    require_some(family, group)
    require_question(family, question)


def common_names(family, group):
    """Return the tuple of the names that belong to the name sets of all observers of a group."""
    return tuple([name for name in names_of(family) if all(name in family[observer] for observer in group)])


def hidden_from(family, names):
    """Return the list of the numbers of the names of a family that are not among some names."""
    return [k for k, name in enumerate(names_of(family)) if name not in names]


def spread(steps, hidden, states):
    """Return the ascending tuple of some states and of all to which hidden names lead from them."""
    found = sorted(set(states))
    at = 0
    while at < len(found):
        for k in hidden:
            if steps[found[at]][k] not in found:
                found.append(steps[found[at]][k])
        at += 1
    return tuple(sorted(found))


def are_all_yes(question, states):
    """Tell whether the answers of all of some states are yes."""
    return all([question[0][state] for state in states])


def question_known(family, names, question):
    """Return the least question of what an observer of just some names knows, or raise TooMany."""
    least = least_of(question)
    steps = least[1]
    hidden = hidden_from(family, names)

    def step(place, k):
        if k in hidden:
            return place
        return spread(steps, hidden, [steps[state][k] for state in place])

    places, further = walk_from(spread(steps, hidden, [0]), len(names_of(family)), step, MOST_STATES)
    return question_in([are_all_yes(least, place) for place in places], further)


def knows(family, observer, question):
    """Return the least question of whether an observer knows a question."""
    require_knower(family, observer, question)
    return question_known(family, family[observer], question)


def everyone(family, group, question):
    """Return the least question of whether all observers of a group know a question."""
    require_knowers(family, group, question)
    known = question_known(family, family[group[0]], question)
    for observer in group[1:]:
        known = both_of(family, known, question_known(family, family[observer], question))
    return known


def common(family, group, question):
    """Return the least question of whether a question is common knowledge in a group."""
    require_knowers(family, group, question)
    return question_known(family, common_names(family, group), question)


def find_sets(family, names, question, log):
    """Return the least known sets of some names and a log, where nothing is wrong with the arguments."""
    steps = question[1]
    known = names_of(family)
    hidden = hidden_from(family, names)
    sets = [spread(steps, hidden, [0])]
    for name in keep_names(log, names):
        k = known.index(name)
        sets.append(spread(steps, hidden, [steps[state][k] for state in sets[-1]]))
    return sets


def leads_into(steps, k, states, targets):
    """Tell whether the name k leads from all of some states into some states."""
    return all(steps[state][k] in targets for state in states)


def are_known_sets(family, names, question, log, value):
    """Tell whether a value, any value, is known sets of some names and a log, with nothing else wrong."""
    answers, steps = question
    view = keep_names(log, names)
    if not isinstance(value, list) or len(value) != len(view) + 1:
        return False
    if not all(are_states(states, len(answers)) for states in value) or 0 not in value[0]:
        return False
    hidden = hidden_from(family, names)
    if not all(leads_into(steps, k, states, states) for states in value for k in hidden):
        return False
    known = names_of(family)
    return all(leads_into(steps, known.index(name), value[at], value[at + 1]) for at, name in enumerate(view))


def find_other_log(family, names, question, log):
    """Return a log with the same restriction to some names to which a question answers no, or None."""
    answers, steps = question
    known = names_of(family)
    hidden = hidden_from(family, names)
    view = [known.index(name) for name in keep_names(log, names)]

    def moves(place):
        read, state = place
        found = [(k, (read, steps[state][k])) for k in hidden]
        return found + [(k, (read + 1, steps[state][k])) for k in view[read:read + 1]]

    came = came_from((0, 0), moves)
    for place in came:
        if place[0] == len(view) and not answers[place[1]]:
            return way_to(known, came, place)
    return None


def is_known(family, observer, question, log):
    """Tell whether an observer knows a question behind a log."""
    require_knower(family, observer, question)
    require_log_of(family, log)
    return find_known(family, observer, question, log)


def find_known(family, observer, question, log):
    """Tell whether an observer knows a question behind a log, where nothing is wrong with the arguments."""
    return are_all_yes(question, find_sets(family, family[observer], question, log)[-1])


def known_sets(family, observer, question, log):
    """Return the least known sets of the name set of an observer and a log."""
    require_knower(family, observer, question)
    require_log_of(family, log)
    return find_sets(family, family[observer], question, log)


def other_log(family, observer, question, log):
    """Return a log of which an observer has the same view and to which a question answers no, or None."""
    require_knower(family, observer, question)
    require_log_of(family, log)
    return find_other_log(family, family[observer], question, log)


def first_known(family, observer, question, log):
    """Return the length of the shortest beginning of a log behind which an observer knows a question, or None."""
    require_knower(family, observer, question)
    require_log_of(family, log)
    sets = find_sets(family, family[observer], question, log)
    for size in range(len(log) + 1):
        if are_all_yes(question, sets[len(keep_names(log[:size], family[observer]))]):
            return size
    return None


def common_sets(family, group, question, log):
    """Return the least known sets of the common names of a group and a log."""
    require_knowers(family, group, question)
    require_log_of(family, log)
    return find_sets(family, common_names(family, group), question, log)


def find_depth_group(family, group):
    """Return the first of the smallest groups of observers of a group that have just its common names."""
    names = common_names(family, group)
    observers = list(group)
    for size in range(len(observers)):
        for part in combinations(observers, size):
            if common_names(family, part) == names:
                return part
    return group


def depth_of(family, group):
    """Return the depth of a group."""
    require_some(family, group)
    return len(find_depth_group(family, group))


def depth_group(family, group):
    """Return a group of as many observers of a group as its depth, with the same common names."""
    require_some(family, group)
    return find_depth_group(family, group)


def pieces_of(log, names):
    """Return the list of the pieces into which the events with some names cut a log."""
    pieces = [()]
    for name in log:
        if name in names:
            pieces.append(())
        else:
            pieces[-1] = pieces[-1] + (name,)
    return pieces


def woven(log, other, names):
    """Return a log of the pieces of two logs with equal restrictions to some names, those of the first one first."""
    shared = keep_names(log, names)
    found = ()
    for at, (piece, second) in enumerate(zip(pieces_of(log, names), pieces_of(other, names))):
        found = found + piece + second + shared[at:at + 1]
    return found


def leading_logs(family, group, question, log):
    """Return logs as in the record "uncommon", or None if a question is common knowledge in a group behind a log."""
    require_knowers(family, group, question)
    require_log_of(family, log)
    names = common_names(family, group)
    target = find_other_log(family, names, question, log)
    if target is None:
        return None
    logs = [log]
    left = names_of(family)
    for observer in find_depth_group(family, group):
        # From here on the names that this observer does not see stand as in the last log.
        left = [name for name in left if name in family[observer]]
        turned = tuple([name for name in target if name in names or name not in left])
        logs.append(woven(turned, keep_names(log, left), names))
    return logs


def have_one_in_common(family, observers, size, names):
    """Tell whether every so many of a list of observers have one of some names in common."""
    parts = list(combinations(observers, size))
    return all([any(name in common_names(family, part) for name in names) for part in parts])


def telling_names(family, group, depth):
    """Return as few names as possible of which any fewer observers of a group than its depth have one in common.

    They are no common names of the whole group.
    """
    shared = common_names(family, group)
    names = [name for name in names_of(family) if name not in shared]
    for size in range(1, len(names)):
        for part in combinations(names, size):
            if have_one_in_common(family, list(group), depth - 1, part):
                return part
    return tuple(names)


def row_of_order(family, row, state):
    """Return the next states of the state in which so many of a row of names have happened in their order."""
    return tuple([state + 1 if name in row[state:state + 1] else state for name in names_of(family)])


def deep_question(family, group):
    """Return a question for which "everyone", made one time less than the depth, is not alike to "common", or None.

    It answers no if some names have happened, one after the other. Fewer
    observers than the depth always have one of these names in common, so that
    behind the empty log they know that they have not happened.
    """
    require_some(family, group)
    depth = len(find_depth_group(family, group))
    if depth == 0:
        return None
    row = telling_names(family, group, depth)
    states = list(range(len(row) + 1))
    answers = tuple([state < len(row) for state in states])
    return (answers, tuple([row_of_order(family, row, state) for state in states]))
