"""Cases: all visitors of a switch, parted so that each part is decided alike; rules that never decide."""

from flagroll.cells import mark_cells, switch_marks, thing_in
from flagroll.errors import NoRule
from flagroll.lots import PLACES, number_for
from flagroll.switches import decided_among, rules_holding, share_at


def place_cuts(switch, day):
    """The places at which another stretch begins or ends for an outcome of the switch at the day."""
    cuts = [0, PLACES]
    for conds, outcome in switch[2]:
        if outcome[0] == "share":
            cuts.append(share_at(outcome[2], day))
    for face, run in switch[3][0]:
        for low, high in run:
            cuts.extend([low, high])
    return cuts


def stretches_between(cuts):
    """Ranges (low, high) of places, rising, from each cut to the next greater one."""
    ends = sorted(set(cuts))
    return list(zip(ends, ends[1:]))


def stretch_faces(groups, switch, day, marks, stretches):
    numbers = rules_holding(groups, switch, marks)
    return [decided_among(switch, day, numbers, low)[0] for low, high in stretches]


def choices_with(choices, groups, switch, mark):
    longer = []
    for cell in mark_cells(groups, switch, mark):
        thing = thing_in(groups, switch, mark, cell)
        more = [] if thing is None else [(mark, thing)]
        longer.extend([(cells + (cell,), marks + more) for cells, marks in choices])
    return longer


def cell_choices(groups, switch):
    """Each way to choose a cell of each of the switch's marks, with marks that lie in these cells."""
    choices = [((), [])]
    for mark in switch_marks(groups, switch):
        choices = choices_with(choices, groups, switch, mark)
    return choices


def cases_with_marks(groups, switch, day):
    stretches = stretches_between(place_cuts(switch, day))
    pairs = []
    for cells, marks in cell_choices(groups, switch):
        numbers = rules_holding(groups, switch, marks)
        for low, high in stretches:
            decided = decided_among(switch, day, numbers, low)
            pairs.append(((cells, low, high, decided[0], decided[1]), marks))
    return pairs


def switch_cases(groups, switch, day):
    return [case for case, marks in cases_with_marks(groups, switch, day)]


def rule_decides(groups, switch, day, number):
    if number < 0 or number > len(switch[2]):
        raise NoRule("the number is neither a rule's nor the number of all rules")
    pairs = cases_with_marks(groups, switch, day)
    for case, marks in pairs:
        if case[4] == number:
            return ("yes", (number_for(switch[0], case[1]), marks))
    return ("never", [case for case, marks in pairs])


def face_counts(groups, switch, day, marks):
    stretches = stretches_between(place_cuts(switch, day))
    counts = {}
    # By a salt each place has just one of the numbers from 0 to 10006: so places are counted.
    for stretch, face in zip(stretches, stretch_faces(groups, switch, day, marks, stretches)):
        counts[face] = counts.get(face, 0) + stretch[1] - stretch[0]
    return sorted(counts.items())
