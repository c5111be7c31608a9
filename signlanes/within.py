"""Words of a group, and words for several pairs, that lead words to words."""

from signlanes.checks import MOST_SIGNS, check_many, check_word, is_spelled
from signlanes.errors import InvalidList
from signlanes.groups import check_group_word
from signlanes.lines import line_between, lines_met
from signlanes.pictures import folded_rows
from signlanes.signs import glued, order_key, reduced, sign_numbers, undone
from signlanes.turns import leader, split_root
from signlanes.words import powered

MOST_PAIRS = 6


def leader_within(group, one, other):
    """The first word of a group that leads what one word says to what another one says, None without one."""
    check_group_word(group, one)
    check_word(group.letter_count, other)
    last = leader(group.letter_count, one, other)
    if last is None or reduced(one) == "":
        return last
    # Whatever leads is this word with a power of the root ahead.
    base, _ = split_root(reduced(one))
    return first_on_line(base, last, line_between(group.lane_rows, "", base, last))


def first_on_line(base, last, line):
    """The first product of a power of a word, with a number of a line, and of a word, None without one.

    Of all numbers 0 is the one for which it is the first word. It gets longer to both sides, so of
    those on the line only the ones next to 0 need be tried.
    """
    if line is None:
        return None
    first, step = line
    found = [glued(powered(base, times), last) for times in (first, first - step)]
    return min(found, key=order_key)


def leader_of_all(many, pairs):
    """The first word that leads one word of each pair to the other one, None without one."""
    check_many(many)
    if not is_pair_list(many, pairs):
        raise InvalidList(pairs)
    return first_leader(many, pairs)


def first_leader(many, pairs):
    """The same for pairs of words of any number, without checks."""
    found = [(split_root(reduced(one))[0], leader(many, one, other)) for one, other in pairs]
    if not all([last is not None for _, last in found]):
        return None
    # The empty word is led to itself by each word.
    needed = [item for item in found if item[0] != ""]
    return first_of_leaders(many, needed) if needed else ""


def first_of_leaders(many, needed):
    """The first word that is, for each root and word of a list, a power of the root ahead of the word."""
    base, last = needed[0]
    line = (0, 1)
    for other_base, other_last in needed[1:]:
        rows = folded_rows(2 * many, [sign_numbers(other_base)])
        line = lines_met(line, line_between(rows, "", base, glued(last, undone(other_last))))
    return first_on_line(base, last, line)


def is_pair_list(many, value):
    """Whether a value is a list of tuples of two words."""
    if not isinstance(value, list) or not 1 <= len(value) <= MOST_PAIRS:
        return False
    if not all([isinstance(pair, tuple) and len(pair) == 2 for pair in value]):
        return False
    return all([is_spelled(many, word, MOST_SIGNS) for pair in value for word in pair])
