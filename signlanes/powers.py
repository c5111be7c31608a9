"""Which powers of a word are in a group."""

from signlanes.errors import InvalidList, InvalidWord
from signlanes.groups import check_group_word
from signlanes.lines import is_line, line_between, lines_met
from signlanes.signs import reduced


def check_full_word(group, word):
    """Refuse what is no group, no word for its letters, or a word that says the empty one."""
    check_group_word(group, word)
    if reduced(word) == "":
        raise InvalidWord(word)


def least_power(group, word):
    """The least number of at least 1 such that a word, taken so many times, is in a group, None without one."""
    check_full_word(group, word)
    line = line_between(group.lane_rows, "", reduced(word), "")
    return None if line[1] == 0 else line[1]


def power_line(group, left, word, right):
    """The numbers for which a power of a word, between two words, says a word of a group, as a line."""
    check_group_word(group, left)
    check_full_word(group, word)
    check_group_word(group, right)
    return line_between(group.lane_rows, reduced(left), reduced(word), reduced(right))


def line_meet(one, other):
    """The line of the numbers that two lines have."""
    for line in (one, other):
        if not is_line(line):
            raise InvalidList(line)
    return lines_met(one, other)
