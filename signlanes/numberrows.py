"""Rows of numbers that stand for words and, below 0, for their opposites."""

from signlanes.checks import is_whole


def is_number_row(size, value):
    """Whether a value is a row over so many words."""
    return isinstance(value, list) and all([is_whole(item) and 1 <= abs(item) <= size for item in value])


def is_plain_row(size, value):
    """Whether a value is a row over so many words in which no number stands beside its negative."""
    if not is_number_row(size, value):
        return False
    return all([value[at] != -value[at + 1] for at in range(len(value) - 1)])


def row_undone(row):
    """The row of the opposite."""
    return [-number for number in row[::-1]]


def rows_glued(one, other):
    """The plain row of two plain rows, one behind the other."""
    most, gone = min(len(one), len(other)), 0
    while gone < most and one[len(one) - 1 - gone] == -other[gone]:
        gone += 1
    return one[:len(one) - gone] + other[gone:]


def row_signs(row):
    """The numbers of a row as numbers of signs, those of a number and its negative side by side."""
    return [2 * abs(number) - 2 + (1 if number < 0 else 0) for number in row]


def row_of_paper(size, paper):
    """The plain row over so many words that a paper over them is in full."""
    known = [[single] for single in range(1, size + 1)]
    for step in paper:
        row = []
        for number, side in step:
            row = rows_glued(row, known[number] if side == 1 else row_undone(known[number]))
        known.append(row)
    return known[-1] if paper else []
