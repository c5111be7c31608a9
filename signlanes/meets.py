"""What two groups have in common, and groups inside groups."""

from signlanes.bases import basis_words
from signlanes.branches import grown_rows, read_on
from signlanes.doubles import first_double_word
from signlanes.errors import InvalidGroup, TooMany, Unlike
from signlanes.groups import check_group, check_group_word, check_like, group_with, rows_rank
from signlanes.joints import image_rows, inner_rows, joint_table, meet_rows, spots_gone_to
from signlanes.partings import first_missing
from signlanes.pictures import MOST_SPOTS, joined_rows
from signlanes.signs import order_key, reduced, sign_numbers, undone, written
from signlanes.trees import finding_lanes, first_words
from signlanes.trimming import core_spots, pruned_rows, trimmed_picture

MOST_INNER_LETTERS = 6
MOST_CORE_PAIRS = 300


def check_two(one, other):
    """Refuse what are no two groups with the same number of letters."""
    check_group(one)
    check_group(other)
    check_like(one, other)


def small_group(many, rows):
    """The group with a picture that may have too many spots."""
    if len(rows) > MOST_SPOTS:
        raise TooMany(len(rows))
    return group_with(many, rows)


def inner_spots(one, other):
    """The spots of the picture of a group to which those of one inside it go."""
    goes = spots_gone_to(one.lane_rows, other.lane_rows)
    if goes is None:
        raise Unlike(other)
    return goes


def meet(one, other):
    """The group of the words that belong to both groups."""
    check_two(one, other)
    return small_group(one.letter_count, meet_rows(one.lane_rows, other.lane_rows))


def joined(one, other):
    """The group of all products of words of both groups."""
    check_two(one, other)
    return small_group(one.letter_count, joined_rows(one.lane_rows, other.lane_rows))


def inside(one, other):
    """Whether every word of the first group belongs to the second one."""
    check_two(one, other)
    return spots_gone_to(one.lane_rows, other.lane_rows) is not None


def first_outside(one, other):
    """The first word that belongs to the first group and not to the second one, None without one."""
    check_two(one, other)
    return first_missing(one.lane_rows, other.lane_rows)


def index_in(one, other):
    """Into how many classes the second group falls by the first one, None if they are without end."""
    check_two(one, other)
    rows = inner_rows(one.lane_rows, other.lane_rows, inner_spots(one, other))
    return None if any([None in row for row in rows]) else len(rows)


def leaders_in(one, other):
    """The first words of these classes, in order, None if they are without end."""
    check_two(one, other)
    rows = inner_rows(one.lane_rows, other.lane_rows, inner_spots(one, other))
    if any([None in row for row in rows]):
        return None
    words, firsts = basis_words(other.lane_rows), first_words(one.lane_rows)
    ends = [(0, [])]
    for inner, sign in finding_lanes(rows)[1:]:
        word = words[sign // 2] if sign & 1 == 0 else undone(words[sign // 2])
        ends.append(read_on(one.lane_rows, ends[inner][0], ends[inner][1], sign_numbers(word)))
    return sorted([firsts[spot] + written(rest) for spot, rest in ends], key=order_key)


def inner_words(one, other):
    """The first group seen from within the second one: its words in those of the basis of that one."""
    check_two(one, other)
    rank = rows_rank(other.lane_rows)
    if not 1 <= rank <= MOST_INNER_LETTERS:
        raise InvalidGroup(other)
    return group_with(rank, inner_rows(one.lane_rows, other.lane_rows, inner_spots(one, other)))


def led_rows(rows, numbers):
    """The picture of the group to which a plain word leads the one with a picture."""
    grown, end = grown_rows(rows, numbers)
    return trimmed_picture(grown, end)


def led(group, word):
    """The group to which a word leads a group."""
    check_group_word(group, word)
    return small_group(group.letter_count, led_rows(group.lane_rows, sign_numbers(reduced(word))))


def led_meets(one, other):
    """For each double class by whose words more is in common: its first word, and what is in common."""
    check_two(one, other)
    pairs = len(core_spots(one.lane_rows)) * len(core_spots(other.lane_rows))
    if pairs > MOST_CORE_PAIRS:
        raise TooMany(MOST_CORE_PAIRS + 1)
    firsts = [first_double_word(one.lane_rows, sign_numbers(reaching), other.lane_rows)
              for reaching in words_of_rounds(one.lane_rows, other.lane_rows)]
    found = []
    for word in sorted(firsts, key=order_key):
        rows = meet_rows(led_rows(one.lane_rows, sign_numbers(word)), other.lane_rows)
        found.append((word, small_group(one.letter_count, rows)))
    return found


def words_of_rounds(one, other):
    """For each part of the pairs of core spots that has a round, a word that leads to a pair of it."""
    cores = [pruned_rows(one, None), pruned_rows(other, None)]
    firsts, other_firsts = first_words(one), first_words(other)
    seen, words = {}, []
    for spot in core_spots(one):
        for there in core_spots(other):
            if (spot, there) not in seen:
                order, rows = joint_table(cores, (spot, there))
                for pair in order:
                    seen[pair] = True
                # A part without a round has fewer lanes than pairs.
                if rows_rank(rows) > 0:
                    words.append(reduced(firsts[spot] + undone(other_firsts[there])))
    return words


def first_of_double(one, word, other):
    """The first word of the double class of a word."""
    check_group_word(one, word)
    check_group(other)
    check_like(one, other)
    return first_double_word(one.lane_rows, sign_numbers(reduced(word)), other.lane_rows)


def through(group, other):
    """The group whose picture is what the spots and lanes of a group go to in a group that has its words."""
    check_two(group, other)
    goes = inner_spots(group, other)
    return group_with(group.letter_count, image_rows(group.lane_rows, other.lane_rows, goes))
