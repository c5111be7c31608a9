"""Products of sets of words, and sets of words of groups."""

from signlanes.checks import check_many, is_word_list
from signlanes.errors import InvalidList, TooMany
from signlanes.groups import check_group, check_group_word, check_like, group_with
from signlanes.machines import least_or_none, live_states
from signlanes.pictures import MOST_SPOTS, woven_rows
from signlanes.quiets import said_machine
from signlanes.signs import reduced, sign_numbers, undone
from signlanes.trimming import lanes_of
from signlanes.wordsets import all_words, check_set, check_two_sets, read_by_signs, set_said
from signlanes.words import split_hair

MOST_IMAGE_SIGNS = 4


def live_lanes(words, first):
    """The lanes of the least machine of a set that words of it pass, its states numbered from a number on."""
    live = live_states(words.least_rows, words.least_ends)
    return [(first + state, sign, first + target) for state, row in enumerate(words.least_rows)
            for sign, target in enumerate(row) if live[state] and live[target]]


def picture_lanes(rows, first):
    """The lanes of a picture, each way, its spots numbered from a number on."""
    return [(first + spot, sign, first + target) for spot, row in enumerate(rows) for sign, target in lanes_of(row)]


def products(one, other):
    """The set of the products of a word of a set and a word of another one."""
    check_two_sets(one, other)
    size = len(one.least_rows)
    machine = (size + len(other.least_rows), live_lanes(one, 0) + live_lanes(other, size),
               [(end, size) for end in one.least_ends])
    return set_said(one.letter_count, machine, 0, [size + end for end in other.least_ends])


def opposites(words):
    """The set of the opposites of the words of a set."""
    check_set(words)
    begin = len(words.least_rows)
    back = [(target, sign ^ 1, state) for state, sign, target in live_lanes(words, 0)]
    machine = (begin + 1, back, [(begin, end) for end in words.least_ends])
    return set_said(words.letter_count, machine, begin, [0])


def all_products(words):
    """The set of the products of any number of words of a set."""
    check_set(words)
    begin = len(words.least_rows)
    pairs = [(begin, 0)] + [(end, begin) for end in words.least_ends]
    return set_said(words.letter_count, (begin + 1, live_lanes(words, 0), pairs), begin, [begin])


def group_words(group):
    """The set of the words of a group."""
    check_group(group)
    machine = (len(group.lane_rows), picture_lanes(group.lane_rows, 0), [])
    return set_said(group.letter_count, machine, 0, [0])


def made_rows(words):
    """The picture of the group of all products of words of a set and of their opposites."""
    # The words that lead to a state, and on to an end, are products of words of the set and their
    # opposites if all ends and the start are one spot.
    pairs = [(0, end) for end in words.least_ends]
    return woven_rows(2 * words.letter_count, len(words.least_rows), live_lanes(words, 0), pairs)


def made_group(words):
    """The group of all products of words of a set and of their opposites."""
    check_set(words)
    rows = made_rows(words)
    if len(rows) > MOST_SPOTS:
        raise TooMany(len(rows))
    return group_with(words.letter_count, rows)


def is_group(words):
    """Whether the words of a set are those of a group."""
    check_set(words)
    rows = made_rows(words)
    machine = (len(rows), picture_lanes(rows, 0), [])
    # Each word leads to one spot alone, so there are no more sets than spots.
    group_machine, lets = said_machine(2 * words.letter_count, machine, 0, [0], len(rows))
    # A group whose least machine has too many states is not that of a set.
    return least_or_none(group_machine, lets) == (words.least_rows, words.least_ends)


def double_class(one, word, other):
    """The set of the products of a word of a group, of a word, and of a word of another group."""
    check_group_word(one, word)
    check_group(other)
    check_like(one, other)
    size, start = len(one.lane_rows), len(one.lane_rows) + len(other.lane_rows)
    nodes, between, pairs = read_by_signs(start, [(0, reduced(word), size)])
    lanes = picture_lanes(one.lane_rows, 0) + picture_lanes(other.lane_rows, size) + between
    return set_said(one.letter_count, (nodes, lanes, pairs), 0, [size])


def led_into(group, word):
    """The set of the plain words that lead what a word says to a word of a group."""
    check_group_word(group, word)
    hair, ring = split_hair(reduced(word))
    if ring == "":
        return all_words(group.letter_count)
    # A word leads there if it undoes, behind the hair, a way from the start to a spot with this ring.
    begin = len(group.lane_rows)
    nodes, lanes, pairs = read_by_signs(begin + 2, [(begin, hair, begin + 1)])
    ends = [(begin + 1, spot) for spot in range(begin) if has_ring(group.lane_rows, spot, ring)]
    machine = (nodes, picture_lanes(group.lane_rows, 0) + lanes, pairs + ends)
    return set_said(group.letter_count, machine, begin, [0])


def has_ring(rows, spot, ring):
    """Whether a word is read from a spot back to it."""
    at = spot
    for number in sign_numbers(ring):
        at = None if at is None else rows[at][number]
    return at == spot


def images(many, words, given):
    """The set of what the words of a set become if each letter is exchanged for a word."""
    check_many(many)
    check_set(given)
    if not is_word_list(many, words, MOST_IMAGE_SIGNS) or len(words) != given.letter_count:
        raise InvalidList(words)
    said = [reduced(word) for word in words]
    sides = [side for word in said for side in (word, undone(word))]
    lanes = [(state, sides[sign], target) for state, sign, target in live_lanes(given, 0)]
    return set_said(many, read_by_signs(len(given.least_rows), lanes), 0, given.least_ends)
