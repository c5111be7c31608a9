"""Cores of pictures, and the words that lead groups to groups."""

from signlanes.branches import read_on
from signlanes.errors import InvalidGroup
from signlanes.groups import check_group, check_like, group_with
from signlanes.pictures import numbered_rows, united_rows
from signlanes.signs import order_key, sign_numbers, written
from signlanes.trees import first_words
from signlanes.trimming import core_spots, pruned_rows


def core(group):
    """The spots that are left if spots with a lane of fewer than two signs are taken away again and again."""
    check_group(group)
    return core_spots(group.lane_rows)


def check_ranked(group):
    """Refuse what is no group with a rank of at least 1."""
    check_group(group)
    if group.rank() == 0:
        raise InvalidGroup(group)


def words_leading(one, other):
    """The first word of each class by a group in which there are words that lead it to another one."""
    check_ranked(one)
    check_ranked(other)
    check_like(one, other)
    rows, other_rows = one.lane_rows, other.lane_rows
    # The start reaches the core of its picture at the core's first spot.
    reached = core_spots(other_rows)[0]
    back = [number ^ 1 for number in sign_numbers(first_words(other_rows)[reached])[::-1]]
    ends = [read_on(rows, spot, [], back) for spot in spots_alike(rows, other_rows, reached)]
    firsts = first_words(rows)
    return sorted([firsts[spot] + written(rest) for spot, rest in ends], key=order_key)


def spots_alike(rows, other_rows, reached):
    """The core spots of a picture from which its core looks like that of another one from a spot of it."""
    pruned, spots = pruned_rows(rows, None), core_spots(rows)
    sought = numbered_rows(pruned_rows(other_rows, None), reached)
    if len(spots) != len(sought):
        return []
    return [spot for spot in spots if numbered_rows(pruned, spot) == sought]


def normalizer_rows(rows):
    """The picture of the group of all words that lead the group with a picture to itself."""
    reached = core_spots(rows)[0]
    return united_rows(rows, [(reached, spot) for spot in spots_alike(rows, rows, reached)])


def normalizer(group):
    """The group of all words that lead a group to itself."""
    check_ranked(group)
    return group_with(group.letter_count, normalizer_rows(group.lane_rows))


def is_normal(group):
    """Whether every word leads a group to itself."""
    check_ranked(group)
    return normalizer_rows(group.lane_rows) == [[0] * (2 * group.letter_count)]


def tower(group):
    """A group, its normalizer, the normalizer of this one, and so on, up to one that is its own."""
    check_ranked(group)
    tables = [group.lane_rows]
    following = normalizer_rows(group.lane_rows)
    while following != tables[-1]:
        tables.append(following)
        following = normalizer_rows(following)
    return [group_with(group.letter_count, rows) for rows in tables]


def greatest_around(group):
    """The greatest group inside which a group stands with finitely many classes."""
    check_ranked(group)
    rows = group.lane_rows
    kinds = kinds_of_core_spots(rows)
    pairs = [(kinds.index(kinds[spot]), spot) for spot in core_spots(rows)]
    return group_with(group.letter_count, united_rows(rows, pairs))


def kinds_of_core_spots(rows):
    """Numbers for all spots; a core spot shares its one just with those from which the same words can be read."""
    pruned = pruned_rows(rows, None)
    kinds, count = [0] * len(rows), 0
    while count < len(set(kinds)):
        count = len(set(kinds))
        looks = [look_of(row, kinds) for row in pruned]
        kinds = numbers_of(list(zip(kinds, looks)))
    return kinds


def look_of(row, kinds):
    """The kinds of the spots to which the signs of a row lead."""
    return tuple([None if target is None else kinds[target] for target in row])


def numbers_of(keys):
    """A number for each key, the same for equal ones."""
    numbers = {}
    for key in keys:
        if key not in numbers:
            numbers[key] = len(numbers)
    return [numbers[item] for item in keys]
