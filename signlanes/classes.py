"""Classes of words by a group, and their first words."""

from signlanes.checks import check_count, is_count
from signlanes.errors import InvalidNumber, TooLong
from signlanes.groups import check_group, check_group_word
from signlanes.leaders import leader_at, leader_counts, leader_place
from signlanes.pictures import spots_passed
from signlanes.signs import reduced, sign_numbers, written
from signlanes.trees import first_words

MOST_NUMBERED = 300


def class_of(group, word):
    """The spot to which what a word says is read, and what is left of it there."""
    check_group_word(group, word)
    return spot_and_rest(group, reduced(word))


def spot_and_rest(group, word):
    """The same of a plain word, without checks."""
    passed = spots_passed(group.lane_rows, sign_numbers(word))
    return (passed[-1], word[len(passed) - 1:])


def first_of_class(group, word):
    """The first word, in the order of words, of the class of a word."""
    check_group_word(group, word)
    spot, rest = spot_and_rest(group, reduced(word))
    # What is left begins with a sign that has no lane, so it cannot undo the sign ahead of it.
    return first_words(group.lane_rows)[spot] + rest


def how_many_classes(group):
    """How many classes there are, None if they are without end."""
    check_group(group)
    if any([None in row for row in group.lane_rows]):
        return None
    return len(group.lane_rows)


def how_many_leaders(group, signs):
    """How many first words of classes have just so many signs."""
    check_group(group)
    check_count(signs)
    return leader_counts(group.lane_rows, signs)[signs]


def leader_numbered(group, number):
    """The first word of a class ahead of which just so many others are."""
    check_group(group)
    index = how_many_classes(group)
    if not is_count(number) or index is not None and number >= index:
        raise InvalidNumber(number)
    rest = number
    for signs, count in enumerate(leader_counts(group.lane_rows, MOST_NUMBERED)):
        if rest < count:
            return written(leader_at(group.lane_rows, signs, rest))
        rest -= count
    raise TooLong(MOST_NUMBERED + 1)


def leader_number(group, word):
    """How many first words of classes are ahead of the one of a word's class."""
    numbers = sign_numbers(first_of_class(group, word))
    shorter = sum(leader_counts(group.lane_rows, len(numbers))[:-1])
    return shorter + leader_place(group.lane_rows, numbers)
