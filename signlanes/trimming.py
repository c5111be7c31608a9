"""Tables of lanes without the spots that no plain way passes."""

from signlanes.pictures import copied_rows, numbered_rows


def pruned_rows(rows, start):
    """The rows without the lanes of spots that have a lane of one sign alone, as long as there are such.

    The start keeps its lane; None stands for no start.
    """
    left = copied_rows(rows)
    waiting = [at for at, row in enumerate(rows) if row.count(None) == len(row) - 1]
    while waiting:
        spot = waiting.pop()
        lanes = lanes_of(left[spot])
        if spot != start and len(lanes) == 1:
            sign, target = lanes[0]
            left[spot][sign] = None
            left[target][sign ^ 1] = None
            waiting.append(target)
    return left


def lanes_of(row):
    """The signs that have lanes in a row, and where these lead."""
    return [(sign, target) for sign, target in enumerate(row) if target is not None]


def trimmed_picture(rows, start):
    """The picture of the group of the plain words that a folded table reads from a spot back to it."""
    return numbered_rows(pruned_rows(rows, start), start)


def core_spots(rows):
    """The spots of the core of a picture, in order."""
    return [spot for spot, row in enumerate(pruned_rows(rows, None)) if lanes_of(row) != []]
