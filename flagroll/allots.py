"""Allotments: which face has which places, changed so that no more places move than must."""

from flagroll.errors import BadShare, NoFace, TooMuch, Twice
from flagroll.lots import PLACES
from flagroll.runs import run_index, run_joined, run_parted, run_size


def allot_new(faces):
    if len(set(faces)) < len(faces):
        raise Twice("a face stands twice among the faces")
    return ([(face, []) for face in faces], [(0, PLACES)])


def face_at(allot, place):
    for face, run in allot[0]:
        if run_index(run, place) is not None:
            return face
    return None


def shares_of(allot):
    return [(face, run_size(run)) for face, run in allot[0]]


def wanted_shares(allot, shares):
    wanted = dict(shares_of(allot))
    told = {}
    for face, places in shares:
        if face not in wanted:
            raise NoFace(f"the allotment has no face {face!r}")
        if face in told:
            raise Twice(f"the face {face!r} is told twice")
        if places < 0:
            raise BadShare(f"the face {face!r} is to have fewer places than none")
        told[face] = places
    wanted.update(told)
    if sum(wanted.values()) > PLACES:
        raise TooMuch("the faces together would have more places than there are")
    return wanted


def rows_shrunk(rows, free, wanted):
    kept_rows = []
    for face, run in rows:
        parted = run_parted(run, min(wanted[face], run_size(run)))
        kept_rows.append((face, parted[0]))
        # Ahead of all in free: so what is given up last is the first to be taken again.
        free = run_joined(parted[1], free)
    return (kept_rows, free)


def rows_grown(rows, free, wanted):
    grown_rows = []
    for face, run in rows:
        parted = run_parted(free, wanted[face] - run_size(run))
        grown_rows.append((face, run_joined(run, parted[0])))
        free = parted[1]
    return (grown_rows, free)


def allot_changed(allot, shares):
    wanted = wanted_shares(allot, shares)
    # A copy: without rows nothing is parted or joined, and the very list that was handed in would be told.
    shrunk = rows_shrunk(allot[0], list(allot[1]), wanted)
    return rows_grown(shrunk[0], shrunk[1], wanted)


def faces_by_place(allot):
    faces = [None] * PLACES
    for face, run in allot[0]:
        for low, high in run:
            for place in range(low, high):
                faces[place] = face
    return faces


def places_moved(one, other):
    faces = faces_by_place(one)
    other_faces = faces_by_place(other)
    return len([place for place in range(PLACES) if faces[place] != other_faces[place]])
