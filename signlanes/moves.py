"""Single moves of rows of words."""

from signlanes.checks import MOST_SIGNS, check_many, check_word_row
from signlanes.errors import InvalidMove, TooLong
from signlanes.rowmoves import done, is_row_move
from signlanes.signs import reduced


def is_move(many, words, value):
    """Whether a value is a move of a row of words."""
    check_many(many)
    check_word_row(many, words)
    return is_row_move(len(words), value)


def moved(many, words, move):
    """The row of plain words behind a move of a row."""
    check_many(many)
    check_word_row(many, words)
    if not is_row_move(len(words), move):
        raise InvalidMove(move)
    row = done([reduced(word) for word in words], move)
    if len(row[move[1]]) > MOST_SIGNS:
        raise TooLong(len(row[move[1]]))
    return row
