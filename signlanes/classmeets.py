"""Words that are in several classes, and in double classes."""

from signlanes.branches import read_on
from signlanes.checks import MOST_SIGNS, check_count, check_word, is_spelled
from signlanes.doubles import are_in_one_double
from signlanes.errors import InvalidList
from signlanes.groups import Group, check_group, check_group_word, check_like
from signlanes.joints import first_joint_word
from signlanes.returning import Returns
from signlanes.signs import reduced, sign_numbers, written

MOST_CLASSES = 6


def how_many_in_class(group, word, signs):
    """How many words of the class of a word have just so many signs."""
    check_group_word(group, word)
    check_count(signs)
    spot, rest = read_on(group.lane_rows, 0, [], sign_numbers(reduced(word)))
    # Ahead of what is left stand the words that lead from the start to the spot; turned about, back from it.
    return Returns(group.lane_rows).from_spot(spot, signs - len(rest))


def meet_word(one, left, other, right):
    """The first word that is in the classes of two words by two groups, None without one."""
    check_group_word(one, left)
    check_group(other)
    check_like(one, other)
    check_word(other.letter_count, right)
    return first_of_classes([(one, left), (other, right)])


def word_of_all(classes):
    """The first word that is in the class of each word by its group, None without one."""
    if not is_class_list(classes):
        raise InvalidList(classes)
    return first_of_classes(classes)


def is_class_list(value):
    """Whether a value is a list of tuples of a group and of a word, all for as many letters."""
    if not isinstance(value, list) or not 1 <= len(value) <= MOST_CLASSES:
        return False
    if not all([isinstance(item, tuple) and len(item) == 2 and isinstance(item[0], Group) for item in value]):
        return False
    many = value[0][0].letter_count
    return all([group.letter_count == many and is_spelled(many, word, MOST_SIGNS) for group, word in value])


def first_of_classes(classes):
    """The first word in all of some classes, None without one.

    Each class is read to a spot, and what is left there stands at the end of all its words. So the
    words in all classes end with the longest of these rests, and lead, ahead of that, to the spots
    from which its signs lead on to those of the classes.
    """
    tables = [group.lane_rows for group, _ in classes]
    ends = [read_on(group.lane_rows, 0, [], sign_numbers(reduced(word))) for group, word in classes]
    longest = max([rest for _, rest in ends], key=len)
    goals = [spot_ahead(table, spot, rest, longest) for table, (spot, rest) in zip(tables, ends)]
    if None in goals:
        return None
    found = first_joint_word(tables, tuple(goals))
    return None if found is None else found + written(longest)


def spot_ahead(rows, spot, rest, longest):
    """The spot from which signs lead to a spot and end with what is left there, None without one."""
    size = len(longest) - len(rest)
    if longest[size:] != rest:
        return None
    ahead, missing = read_on(rows, spot, [], [number ^ 1 for number in longest[:size][::-1]])
    return None if missing else ahead


def in_double(one, word, other, sought):
    """Whether what a word says is in the double class of another word by two groups."""
    check_group_word(one, word)
    check_group(other)
    check_like(one, other)
    check_word(one.letter_count, sought)
    numbers, sought_numbers = sign_numbers(reduced(word)), sign_numbers(reduced(sought))
    return are_in_one_double(one.lane_rows, numbers, other.lane_rows, sought_numbers)
