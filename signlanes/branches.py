"""Words that are read from a picture and on beyond it.

A class of words by a group is known by a spot and by the signs that are left there, for the first of
which this spot has no lane.
"""

from signlanes.pictures import copied_rows


def read_on(rows, spot, rest, numbers):
    """The spot and what is left there if signs are put behind what led to a spot and was left there."""
    left = list(rest)
    for number in numbers:
        if left and left[-1] == number ^ 1:
            left.pop()
        elif left or rows[spot][number] is None:
            left.append(number)
        else:
            spot = rows[spot][number]
    return (spot, left)


def grown_rows(rows, numbers):
    """The rows with the way of a plain word put on at the start, and the spot where it ends."""
    grown, spot = copied_rows(rows), 0
    for number in numbers:
        if grown[spot][number] is None:
            grown.append([None] * len(rows[0]))
            grown[spot][number] = len(grown) - 1
            grown[-1][number ^ 1] = spot
        spot = grown[spot][number]
    return (grown, spot)
