"""Turns: for whom two switches of one salt tell unlike faces, and for how many."""

from flagroll.cases import cell_choices, place_cuts, stretch_faces, stretches_between
from flagroll.errors import Unlike
from flagroll.lots import number_for


def check_same_salt(one, other):
    # Text by text: two salts that give every number the same place are still two.
    if one[0] != other[0]:
        raise Unlike("the two switches have not the same salt")


def joint_stretches(one, other, day):
    return stretches_between(place_cuts(one, day) + place_cuts(other, day))


def switch_turned(groups, one, other, day):
    check_same_salt(one, other)
    stretches = joint_stretches(one, other, day)
    # With the rules of both: so what lies in one of its cells is alike to the conditions of each.
    both = (one[0], one[1], one[2] + other[2], one[3])
    for cells, marks in cell_choices(groups, both):
        faces = stretch_faces(groups, one, day, marks, stretches)
        other_faces = stretch_faces(groups, other, day, marks, stretches)
        for stretch, face, other_face in zip(stretches, faces, other_faces):
            if face != other_face:
                return (number_for(one[0], stretch[0]), marks)
    return None


def faces_turned(groups, one, other, day, marks):
    check_same_salt(one, other)
    stretches = joint_stretches(one, other, day)
    faces = stretch_faces(groups, one, day, marks, stretches)
    other_faces = stretch_faces(groups, other, day, marks, stretches)
    counts = {}
    # By a salt each place has just one of the numbers from 0 to 10006: so places are counted.
    for stretch, face, other_face in zip(stretches, faces, other_faces):
        counts[(face, other_face)] = counts.get((face, other_face), 0) + stretch[1] - stretch[0]
    return sorted([(pair[0], pair[1], many) for pair, many in counts.items()])
