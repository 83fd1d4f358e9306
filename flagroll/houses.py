"""Houses: switches with groups, holdouts, needs and stops, and why each one answers as it does."""

from flagroll.conds import cond_checked
from flagroll.errors import BadShare, NoSwitch, NoWord, Ringed, Twice
from flagroll.lots import PLACES, check_salt, place_of
from flagroll.switches import decide, switch_checked


def check_new(name, names_ahead):
    if name in names_ahead:
        raise Twice(f"the name {name!r} stands twice")


def check_switch_there(name, names):
    if name not in names:
        raise NoSwitch(f"there is no switch {name!r}")


def check_group_cond(cond):
    # A group that looked at groups could look at itself.
    if cond[1] in ("in", "out"):
        raise NoWord("a condition of a group looks at a group")
    cond_checked(cond, [])


def check_groups(groups):
    names_ahead = []
    for name, rows in groups:
        check_new(name, names_ahead)
        names_ahead.append(name)
        for row in rows:
            for cond in row:
                check_group_cond(cond)


def check_holdouts(holdouts, switch_names):
    names_ahead = []
    for name, salt, places, names in holdouts:
        check_new(name, names_ahead)
        names_ahead.append(name)
        check_salt(salt)
        if places < 0 or places > PLACES:
            raise BadShare(f"the holdout {name!r} has fewer places than none or more than there are")
        told_names = [] if names is None else names
        for told_name in told_names:
            check_switch_there(told_name, switch_names)


def check_switches(switches, group_names, switch_names):
    names_ahead = []
    for name, entry in switches:
        check_new(name, names_ahead)
        names_ahead.append(name)
        switch_checked(group_names, entry[0])
        for needed, face in entry[1]:
            check_switch_there(needed, switch_names)


def tied_names(needs):
    """The names of the switches from which one comes, along the needs, to a ring."""
    tied = list(needs)
    while True:
        left = [name for name in tied if any([needed in tied for needed in needs[name]])]
        if left == tied:
            return tied
        tied = left


def ring_from(needs, tied):
    # Each one that is tied needs a tied one, so along these some name comes again.
    path = []
    name = tied[0]
    while name not in path:
        path.append(name)
        name = [needed for needed in needs[name] if needed in tied][0]
    return tuple(path[path.index(name):])


def check_rings(switches):
    needs = {}
    for name, entry in switches:
        needs[name] = [needed for needed, face in entry[1]]
    tied = tied_names(needs)
    if tied != []:
        raise Ringed(ring_from(needs, tied))


def house_checked(house):
    switch_names = [name for name, entry in house[2]]
    check_groups(house[0])
    check_holdouts(house[1], switch_names)
    check_switches(house[2], [name for name, rows in house[0]], switch_names)
    check_rings(house[2])
    return True


def entry_of(house, name):
    for switch_name, entry in house[2]:
        if switch_name == name:
            return entry
    raise NoSwitch(f"there is no switch {name!r}")


def first_holdout(house, visitor, name):
    for holdout_name, salt, places, names in house[1]:
        if (names is None or name in names) and place_of(salt, visitor[0]) < places:
            return holdout_name
    return None


def first_unmet_need(house, day, visitor, needs, told):
    for name, face in needs:
        if answer_once(house, day, visitor, name, told)[0] != face:
            return name
    return None


def reckoned_answer(house, day, visitor, name, told):
    entry = entry_of(house, name)
    switch = entry[0]
    if entry[2]:
        return (switch[1], ("stopped",))
    holdout_name = first_holdout(house, visitor, name)
    if holdout_name is not None:
        return (switch[1], ("held", holdout_name))
    needed = first_unmet_need(house, day, visitor, entry[1], told)
    if needed is not None:
        return (switch[1], ("needs", needed))
    decided = decide(house[0], switch, day, visitor)
    if decided[1] == len(switch[2]):
        return (decided[0], ("rest",))
    return (decided[0], ("rule", decided[1]))


def answer_once(house, day, visitor, name, told):
    # Many needs may lead to one switch: it is reckoned once, and kept in told for this visitor and day.
    if name not in told:
        told[name] = reckoned_answer(house, day, visitor, name, told)
    return told[name]


def answer(house, day, visitor, name):
    return answer_once(house, day, visitor, name, {})


def answer_all(house, day, visitor):
    told = {}
    answers = []
    for name, entry in house[2]:
        answered = answer_once(house, day, visitor, name, told)
        answers.append((name, answered[0], answered[1]))
    return answers
