"""Switches: rules over a visitor's marks, shares by stages and lots decide for a face."""

from flagroll.allots import face_at
from flagroll.conds import cond_checked, conds_hold
from flagroll.errors import BadOutcome, BadStage
from flagroll.lots import PLACES, check_salt, place_of

OUTCOMES = ("face", "share", "lot")


def stages_checked(stages):
    # Ahead of the first day stands -1: so one below 0 is no greater than the one ahead of it, either.
    day_ahead = -1
    for day, places in stages:
        if day <= day_ahead:
            raise BadStage("a stage's day is below 0 or no greater than the one ahead of it")
        if places < 0 or places > PLACES:
            raise BadStage("a stage has fewer places than none or more than there are")
        day_ahead = day
    return True


def share_at(stages, day):
    share = 0
    for first_day, places in stages:
        if first_day <= day:
            share = places
    return share


def outcome_checked(outcome):
    # The word is not shown: a thing may be too long or too deep to be written as a text.
    if outcome[0] not in OUTCOMES:
        raise BadOutcome("an outcome's first word is none of the three")
    if outcome[0] == "share":
        stages_checked(outcome[2])


def switch_checked(names, switch):
    check_salt(switch[0])
    for conds, outcome in switch[2]:
        for cond in conds:
            cond_checked(cond, names)
        outcome_checked(outcome)
    return True


def outcome_face(outcome, allot, day, place):
    if outcome[0] == "face":
        return outcome[1]
    if outcome[0] == "share":
        return outcome[1] if place < share_at(outcome[2], day) else None
    return face_at(allot, place)


def rules_holding(groups, switch, marks):
    return [number for number, rule in enumerate(switch[2]) if conds_hold(groups, rule[0], marks)]


def decided_among(switch, day, numbers, place):
    for number in numbers:
        face = outcome_face(switch[2][number][1], switch[3], day, place)
        if face is not None:
            return (face, number)
    return (switch[1], len(switch[2]))


def decide(groups, switch, day, visitor):
    numbers = rules_holding(groups, switch, visitor[1])
    return decided_among(switch, day, numbers, place_of(switch[0], visitor[0]))
