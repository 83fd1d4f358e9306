"""Runs: places in an order, kept as a list of ranges (low, high), high not within."""


def run_size(run):
    return sum([high - low for low, high in run])


def run_parted(run, many):
    first = []
    rest = []
    wanted = many
    for low, high in run:
        cut = min(low + wanted, high)
        if low < cut:
            first.append((low, cut))
        if cut < high:
            rest.append((cut, high))
        wanted = wanted - (cut - low)
    return (first, rest)


def run_joined(one, other):
    if one == [] or other == [] or one[-1][1] != other[0][0]:
        return one + other
    # Ranges that meet are one; within each run none meet, so only the seam is looked at.
    seam = (one[-1][0], other[0][1])
    return one[:-1] + [seam] + other[1:]


def run_at(run, index):
    ahead = 0
    for low, high in run:
        if index < ahead + high - low:
            return low + index - ahead
        ahead = ahead + high - low
    return None


def run_index(run, place):
    ahead = 0
    for low, high in run:
        if low <= place < high:
            return ahead + place - low
        ahead = ahead + high - low
    return None
