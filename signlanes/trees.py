"""How the spots of a picture are found, and the lanes that find none."""

from signlanes.signs import SIGNS


def finding_lanes(rows):
    """For each spot the spot and the sign by which it is found first; (None, None) for the start."""
    found = [(None, None)] + [None] * (len(rows) - 1)
    for spot, row in enumerate(rows):
        for sign, target in enumerate(row):
            if target is not None and found[target] is None:
                found[target] = (spot, sign)
    return found


def first_words(rows):
    """The first word of each spot, in the order of the spots."""
    words = [""]
    # A spot is found from one with a lesser number, which has its word already.
    for spot, sign in finding_lanes(rows)[1:]:
        words.append(words[spot] + SIGNS[sign])
    return words


def free_lanes(rows):
    """The lanes that find no spot, as spot, sign of the letter and spot, in order."""
    found, lanes = finding_lanes(rows), []
    for spot, row in enumerate(rows):
        for sign in range(0, len(row), 2):
            target = row[sign]
            if target is not None and found[target] != (spot, sign) and found[spot] != (target, sign + 1):
                lanes.append((spot, sign, target))
    return lanes
