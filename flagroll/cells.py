"""Cells: what is alike to all of a switch's conditions on a mark lies in one cell."""

from flagroll.kinds import SIGNS, is_whole


def group_conds(groups, names):
    conds = []
    for name, rows in groups:
        if name in names:
            for row in rows:
                conds.extend(row)
    return conds


def looked_conds(groups, switch):
    """The conditions on marks: those of the rules, and those of the groups that the rules name."""
    conds = []
    group_names = {}
    for rule in switch[2]:
        for cond in rule[0]:
            if cond[1] in ("in", "out"):
                group_names[cond[0]] = True
            else:
                conds.append(cond)
    return conds + group_conds(groups, group_names)


def switch_marks(groups, switch):
    return sorted(set([cond[0] for cond in looked_conds(groups, switch)]))


def things_told(groups, switch, mark, words):
    things = []
    for cond in looked_conds(groups, switch):
        if cond[0] == mark and cond[1] in words:
            things.extend(cond[2])
    return things


def texts_told(groups, switch, mark):
    things = things_told(groups, switch, mark, ("is", "not"))
    return sorted(set([thing for thing in things if isinstance(thing, str)]))


def beginnings_told(groups, switch, mark):
    return sorted(set([""] + things_told(groups, switch, mark, ("begins",))))


def number_cuts(groups, switch, mark):
    """The numbers at which a new stretch begins."""
    things = things_told(groups, switch, mark, ("is", "not"))
    alone = [thing for thing in things if is_whole(thing)]
    least = things_told(groups, switch, mark, ("least",))
    most = things_told(groups, switch, mark, ("most",))
    return sorted(set(alone + least + [number + 1 for number in alone + most]))


def mark_cells(groups, switch, mark):
    texts = [("text", text) for text in texts_told(groups, switch, mark)]
    beginnings = [("begins", text) for text in beginnings_told(groups, switch, mark)]
    cuts = number_cuts(groups, switch, mark)
    lows = [None] + cuts
    highs = [cut - 1 for cut in cuts] + [None]
    return [("none",)] + texts + beginnings + [("numbers", low, high) for low, high in zip(lows, highs)]


def text_cell(groups, switch, mark, text):
    if text in texts_told(groups, switch, mark):
        return ("text", text)
    beginnings = beginnings_told(groups, switch, mark)
    return ("begins", max([beginning for beginning in beginnings if text.startswith(beginning)], key=len))


def number_cell(groups, switch, mark, number):
    cuts = number_cuts(groups, switch, mark)
    low = max([cut for cut in cuts if cut <= number], default=None)
    end = min([cut for cut in cuts if cut > number], default=None)
    return ("numbers", low, None if end is None else end - 1)


def cell_of(groups, switch, mark, thing):
    if thing is None:
        return ("none",)
    if isinstance(thing, str):
        return text_cell(groups, switch, mark, thing)
    return number_cell(groups, switch, mark, thing)


def text_beginning(groups, switch, mark, beginning):
    texts = texts_told(groups, switch, mark)
    beginnings = beginnings_told(groups, switch, mark)
    # Only a told text is made longer, and each of these is short: so this ends, ahead of twelve signs.
    waiting = [beginning]
    while waiting != []:
        text = waiting.pop(0)
        if text not in texts:
            return text
        waiting.extend([text + sign for sign in SIGNS if text + sign not in beginnings])
    return None


def thing_in(groups, switch, mark, cell):
    if cell[0] == "none":
        return None
    if cell[0] == "text":
        return cell[1]
    if cell[0] == "begins":
        return text_beginning(groups, switch, mark, cell[1])
    if cell[1] is not None:
        return cell[1]
    return 0 if cell[2] is None else cell[2]
