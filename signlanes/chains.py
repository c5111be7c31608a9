"""Chains of moves from row to row, and the least rows by which these are found."""

from signlanes.bases import basis_words
from signlanes.checks import MOST_SIGNS, check_many, check_word, check_word_row
from signlanes.errors import Unlike
from signlanes.lettermaps import is_one_to_one
from signlanes.nielsen import level_key
from signlanes.pictures import picture_rows
from signlanes.reductions import lessened, moves_to_least
from signlanes.rowmoves import done, is_row_move, moves_back
from signlanes.signs import order_key, reduced, undone


def level(many, word):
    """The level of what a word says."""
    check_many(many)
    check_word(many, word)
    said = reduced(word)
    half = (len(said) + 1) // 2
    first, second = sorted([said[:half], undone(said)[:half]], key=order_key)
    return (len(said), first, second)


def least_row(many, words):
    """The words of the group of a row that no words of lesser levels make, in order, and empty words behind."""
    check_many(many)
    check_word_row(many, words)
    # By the first words of the spots no basis word is made of words with lesser levels.
    found = [min([word, undone(word)], key=order_key) for word in basis_words(picture_rows(many, words))]
    return sorted(found, key=level_key) + [""] * (len(words) - len(found))


def check_two_rows(many, one, other):
    """Refuse what are no two rows with equally many words."""
    check_many(many)
    check_word_row(many, one)
    check_word_row(many, other)
    if len(one) != len(other):
        raise Unlike(other)


def chain(many, one, other):
    """A list of moves that leads from one row to another one, None if there is none."""
    check_two_rows(many, one, other)
    if picture_rows(many, one) != picture_rows(many, other):
        return None
    moves, other_moves = [moves_to_least([reduced(word) for word in row]) for row in (one, other)]
    # What both do alike at last need not be done and led back.
    while moves and other_moves and moves[-1] == other_moves[-1]:
        moves.pop()
        other_moves.pop()
    return moves + moves_back(other_moves)


def is_chain(many, one, other, value):
    """Whether a value is a list of moves that leads from one row to another one."""
    check_two_rows(many, one, other)
    if not isinstance(value, list):
        return False
    row = [reduced(word) for word in one]
    for move in value:
        if not is_row_move(len(row), move):
            return False
        row = done(row, move)
        if len(row[move[1]]) > MOST_SIGNS:
            return False
    return row == [reduced(word) for word in other]


def collapse(lettermap):
    """A list of moves that leads the words of a map to a row with the empty word, None if it is one to one."""
    if is_one_to_one(lettermap):
        return None
    moves, _ = lessened(lettermap.words(), True)
    return moves
