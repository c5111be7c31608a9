"""The words of a group in their order."""

from signlanes.checks import check_count, is_count, is_whole
from signlanes.errors import InvalidNumber, TooLong
from signlanes.groups import check_group, check_group_word
from signlanes.pictures import reads_back
from signlanes.returning import Returns
from signlanes.signs import reduced, sign_numbers, written

MOST_NUMBERED = 300
MOST_AT_ONCE = 1000


def member_number(group, word):
    """How many words of a group are ahead of what a word says, None if this is not in the group."""
    check_group_word(group, word)
    sought = reduced(word)
    if not reads_back(group.lane_rows, sought):
        return None
    return Returns(group.lane_rows).place_of(sign_numbers(sought))


def member_numbered(group, number):
    """The word of a group ahead of which just so many of its words stand."""
    check_group(group)
    if not is_count(number) or number > 0 and group.rank() == 0:
        raise InvalidNumber(number)
    return written(numbered(Returns(group.lane_rows), number))


def numbered(returns, number):
    """The numbers of the signs of the word of a group with a number."""
    rest, signs = number, 0
    while rest >= returns.in_all(signs):
        rest, signs = rest - returns.in_all(signs), signs + 1
        if signs > MOST_NUMBERED:
            raise TooLong(MOST_NUMBERED + 1)
    return returns.word_at(rest, signs)


def members_from(group, low, high):
    """The words of a group with the numbers from one on that are below another one."""
    check_group(group)
    check_count(low)
    if not is_whole(high) or not low <= high <= low + MOST_AT_ONCE:
        raise InvalidNumber(high)
    if high > 1 and group.rank() == 0:
        raise InvalidNumber(high)
    if low == high:
        return []
    returns = Returns(group.lane_rows)
    found = [numbered(returns, low)]
    while len(found) < high - low:
        found.append(returns.next_member(found[-1]))
        if len(found[-1]) > MOST_NUMBERED:
            raise TooLong(MOST_NUMBERED + 1)
    return [written(numbers) for numbers in found]


def next_member(group, word):
    """The first word of a group behind what a word says, None if there is none."""
    check_group_word(group, word)
    if group.rank() == 0:
        return None
    return written(Returns(group.lane_rows).next_member(sign_numbers(reduced(word))))
