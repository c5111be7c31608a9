"""Lists of words without the words that are made of others."""

from signlanes.bases import said_by_row
from signlanes.checks import is_count
from signlanes.errors import InvalidNumber
from signlanes.groups import Group
from signlanes.nielsen import freed_rows
from signlanes.numberrows import is_plain_row, row_signs
from signlanes.pictures import folded_rows, picture_rows, reads_back
from signlanes.signs import reduced


def freed(many, words):
    """Rows over a list that say a basis of its group, and rows that say the empty word and tell all others."""
    rank = Group(many, words).rank()
    rows, said = freed_rows([reduced(word) for word in words], rank)
    full = [row for row, word in zip(rows, said) if word != ""]
    return (full, [row for row, word in zip(rows, said) if word == ""])


def is_freed(many, words, value):
    """Whether a value is a tuple of such rows."""
    group = Group(many, words)
    if not isinstance(value, tuple) or len(value) != 2:
        return False
    rows, empties = value
    if not is_row_list(len(words), rows) or not is_row_list(len(words), empties):
        return False
    if len(rows) != group.rank() or len(rows) + len(empties) != len(words):
        return False
    plains = [reduced(word) for word in words]
    if not all([said_by_row(plains, row) == "" for row in empties]):
        return False
    # If all rows together make all rows, the first ones say words that make the group, as
    # many as its rank; so they say a basis.
    return is_row_basis(len(words), rows + empties)


def is_row_list(size, value):
    """Whether a value is a list of plain rows over so many words."""
    return isinstance(value, list) and all([is_plain_row(size, row) for row in value])


def is_row_basis(size, rows):
    """Whether as many rows as there are words make all rows over them, which then they do freely."""
    return folded_rows(2 * size, [row_signs(row) for row in rows]) == [[0] * (2 * size)]


def is_spare(many, words, number):
    """Whether the word with a number is in the group of the other words of the list."""
    Group(many, words)
    if not is_count(number) or number >= len(words):
        raise InvalidNumber(number)
    return is_made_of_others(many, words, number)


def is_made_of_others(many, words, number):
    """The same without checks; the picture of the others may have any number of spots."""
    rows = picture_rows(many, words[:number] + words[number + 1:])
    return reads_back(rows, reduced(words[number]))


def without_spare(many, words):
    """What remains of a list if, from the last word to the first, each one made of others is taken out."""
    Group(many, words)
    left = list(words)
    for number in range(len(words) - 1, -1, -1):
        if is_made_of_others(many, left, number):
            del left[number]
    return left
