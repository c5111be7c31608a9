"""Moves of rows of plain words, without checks of the words."""

from signlanes.checks import is_count
from signlanes.signs import glued, undone


def is_row_move(size, value):
    """Whether a value is a move of a row of so many words."""
    if not isinstance(value, tuple) or len(value) not in (2, 3) or not isinstance(value[0], str):
        return False
    if not all([is_count(number) and number < size for number in value[1:]]):
        return False
    if len(value) == 2:
        return value[0] == "opposite"
    return value[0] in ("times", "exchange") and value[1] != value[2]


def done(words, move):
    """The row behind a move of a row."""
    row = list(words)
    if len(move) == 2:
        row[move[1]] = undone(row[move[1]])
        return row
    kind, one, other = move
    if kind == "times":
        row[one] = glued(row[one], row[other])
    else:
        row[one], row[other] = row[other], row[one]
    return row


def moves_for_product(at, other, side, behind):
    """The moves that put a word, or its opposite, behind another one of a row or ahead of it."""
    turning = [("opposite", other)] if side == (-1 if behind else 1) else []
    around = [] if behind else [("opposite", at)]
    return around + turning + [("times", at, other)] + turning + around


def moves_back(moves):
    """The moves that lead back what some moves have led."""
    found = []
    for move in moves[::-1]:
        if move[0] == "times":
            found.extend([("opposite", move[2]), move, ("opposite", move[2])])
        else:
            found.append(move)
    return found
