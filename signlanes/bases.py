"""Bases of groups, and rows over lists of words."""

from signlanes.checks import check_count, check_many, check_words, is_count
from signlanes.errors import InvalidList, InvalidNumber, InvalidRow, Unlike
from signlanes.groups import Group, check_group, check_group_word
from signlanes.lifts import Lift
from signlanes.numberrows import is_number_row, row_of_paper
from signlanes.pictures import spots_passed
from signlanes.signs import SIGNS, reduced, sign_numbers, undone
from signlanes.trees import first_words, free_lanes


def first_word(group, spot):
    """The signs by which a spot of the picture is found first, one behind the other."""
    check_group(group)
    if not is_count(spot) or spot >= len(group.lane_rows):
        raise InvalidNumber(spot)
    return first_words(group.lane_rows)[spot]


def basis(group):
    """The basis words of a group, one for each free lane."""
    check_group(group)
    return basis_words(group.lane_rows)


def basis_words(rows):
    """The basis words of the group with a picture."""
    firsts = first_words(rows)
    return [firsts[spot] + SIGNS[sign] + undone(firsts[target]) for spot, sign, target in free_lanes(rows)]


def is_row(size, value):
    """Whether a value is a row over so many words."""
    check_count(size)
    return is_number_row(size, value)


def row_word(many, words, row):
    """The plain word that a row over a list of words says."""
    check_many(many)
    check_words(many, words)
    if not is_number_row(len(words), row):
        raise InvalidRow(row)
    return said_by_row([reduced(word) for word in words], row)


def said_by_row(words, row):
    """The plain word that a row over plain words says."""
    return reduced("".join([words[number - 1] if number > 0 else undone(words[-number - 1]) for number in row]))


def basis_row(group, word):
    """The plain row over the basis words that says what a word says, None if this is not in the group."""
    check_group_word(group, word)
    numbers = sign_numbers(reduced(word))
    passed = spots_passed(group.lane_rows, numbers)
    if len(passed) <= len(numbers) or passed[-1] != 0:
        return None
    lanes = {}
    for number, (spot, letter, target) in enumerate(free_lanes(group.lane_rows), 1):
        lanes[(spot, letter)] = number
        lanes[(target, letter + 1)] = -number
    steps = [(passed[at], sign) for at, sign in enumerate(numbers)]
    return [lanes[step] for step in steps if step in lanes]


def is_basis(many, words):
    """Whether a list of words is a basis of its group."""
    return Group(many, words).rank() == len(words)


def least_lengths(group):
    """The numbers of signs of the basis words, the least first."""
    check_group(group)
    return sorted([len(word) for word in basis_words(group.lane_rows)])


def rows_between(many, one, other):
    """The rows over a basis that say the words of another one of the same group, both ways."""
    group, other_group = Group(many, one), Group(many, other)
    if group.rank() != len(one):
        raise InvalidList(one)
    if other_group.rank() != len(other):
        raise InvalidList(other)
    if group != other_group:
        raise Unlike(other)
    return (rows_over(many, other, one), rows_over(many, one, other))


def rows_over(many, words, sought):
    """The plain rows over a basis that say the words of a list."""
    lift = Lift(many, [reduced(word) for word in words])
    return [row_of_paper(len(words), lift.paper_of(reduced(word))) for word in sought]
