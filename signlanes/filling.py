"""Groups filled up to groups of finite index."""

from signlanes.branches import grown_rows
from signlanes.checks import MOST_SIGNS, MOST_WORDS, is_word_list
from signlanes.errors import InvalidList, InvalidWord, TooMany
from signlanes.groups import check_group, group_with
from signlanes.pictures import MOST_SPOTS, copied_rows, numbered_rows, reads_back
from signlanes.signs import SIGNS, reduced, sign_numbers, undone
from signlanes.trees import first_words


def filled(group, words):
    """A group of finite index that has all words of a group and none of those that a list says."""
    rows = rows_with_ways(group, words)
    full = copied_rows(rows)
    for spot, sign, target in missing_lanes(rows):
        full[spot][sign] = target
        full[target][sign + 1] = spot
    return group_with(group.letter_count, numbered_rows(full, 0))


def filled_basis(group, words):
    """A word for each lane that is put in at last to fill up a group."""
    rows = rows_with_ways(group, words)
    ways = ways_to_spots(group.lane_rows, rows)
    return [ways[spot] + SIGNS[sign] + undone(ways[target]) for spot, sign, target in missing_lanes(rows)]


def rows_with_ways(group, words):
    """The picture of a group with the ways of the words of a list put on."""
    check_group(group)
    if not is_word_list(group.letter_count, words, MOST_SIGNS) or len(words) > MOST_WORDS:
        raise InvalidList(words)
    rows = group.lane_rows
    for word in words:
        if reads_back(group.lane_rows, reduced(word)):
            raise InvalidWord(word)
    for word in words:
        rows, _ = grown_rows(rows, sign_numbers(reduced(word)))
    if len(rows) > MOST_SPOTS:
        raise TooMany(len(rows))
    return rows


def missing_lanes(rows):
    """The lanes that are put in, as spot, sign of the letter and spot, letter by letter."""
    lanes = []
    for sign in range(0, len(rows[0]), 2):
        left = [spot for spot, row in enumerate(rows) if row[sign] is None]
        reached = [spot for spot, row in enumerate(rows) if row[sign + 1] is None]
        lanes.extend([(spot, sign, target) for spot, target in zip(left, reached)])
    return lanes


def ways_to_spots(rows, grown):
    """The ways to the spots of a picture and to those that have been put on."""
    ways = first_words(rows)
    for spot in range(len(rows), len(grown)):
        # Of all spots with a lane to a new one, only that from which its first lane came is older.
        for sign, older in enumerate(grown[spot]):
            if older is not None and older < spot:
                way = ways[older] + SIGNS[sign ^ 1]
        ways.append(way)
    return ways
