"""How many groups there are of an index, and which ones."""

from signlanes.checks import check_many, is_count, is_whole
from signlanes.completions import Completions
from signlanes.errors import InvalidGroup, InvalidNumber
from signlanes.groups import check_group, group_with
from signlanes.places import powers

MOST_INDEX = 30
MOST_CORE_INDEX = 7


def how_many_groups(many, index):
    """How many groups of so many letters have an index."""
    check_many(many)
    if not is_whole(index) or not 1 <= index <= MOST_INDEX:
        raise InvalidNumber(index)
    return Completions(many, index).ways_on(1, [0] * many)


def is_full(rows):
    """Whether each sign has a lane from each spot."""
    return not any([None in row for row in rows])


def check_index(group, most):
    """Refuse what is no group of a finite index up to a number."""
    check_group(group)
    if not is_full(group.lane_rows) or len(group.lane_rows) > most:
        raise InvalidGroup(group)


def open_spots(rows, sign):
    """The spots to which a sign has no lane yet."""
    return [spot for spot, row in enumerate(rows) if row[sign ^ 1] is None]


def group_numbered(many, index, number):
    """The group with a number among those of an index, in the order of their pictures."""
    groups = how_many_groups(many, index)
    if not is_count(number) or number >= groups:
        raise InvalidNumber(number)
    ways, rows, lanes = Completions(many, index), [[None] * (2 * many)], [0] * many
    for at in range(2 * many * index):
        spot, sign = divmod(at, 2 * many)
        if rows[spot][sign] is None:
            lanes[sign // 2] += 1
            reached, count = open_spots(rows, sign), ways.ways_on(len(rows), lanes)
            if number < len(reached) * count:
                place, number = divmod(number, count)
                target = reached[place]
            else:
                number -= len(reached) * count
                target = len(rows)
                rows.append([None] * (2 * many))
            rows[spot][sign] = target
            rows[target][sign ^ 1] = spot
    return group_with(many, rows)


def group_number(group):
    """The number of a group among those of its index, in the order of their pictures."""
    check_index(group, MOST_INDEX)
    many, size = group.letter_count, len(group.lane_rows)
    ways, rows, lanes, number = Completions(many, size), [[None] * (2 * many)], [0] * many, 0
    for at in range(2 * many * size):
        spot, sign = divmod(at, 2 * many)
        if rows[spot][sign] is None:
            target = group.lane_rows[spot][sign]
            lanes[sign // 2] += 1
            lesser = [other for other in open_spots(rows, sign) if other < target]
            number += len(lesser) * ways.ways_on(len(rows), lanes)
            if target == len(rows):
                rows.append([None] * (2 * many))
            rows[spot][sign] = target
            rows[target][sign ^ 1] = spot
    return number


def how_many_kinds(many, index):
    """How many kinds the groups of an index fall into, if words lead those of one kind to one another."""
    how_many_groups(many, index)
    maps = 0
    for size in range(1, index + 1):
        if index % size == 0:
            # A map of a picture to itself is a way to send a group of fewer spots onto a circle's turns.
            rank = (many - 1) * size + 1
            maps += how_many_groups(many, size) * ways_onto_turns(rank, index // size)
    return maps // index


def ways_onto_turns(rank, turns):
    """In how many ways so many letters can be given turns of a circle that together make all of them."""
    ways = {}
    for part in range(1, turns + 1):
        if turns % part == 0:
            fewer = [ways[less] for less in ways if part % less == 0]
            ways[part] = powers(part, rank)[-1] - sum(fewer)
    return ways[turns]


def core_index(group):
    """The index of the greatest normal group of which all words belong to a group."""
    check_index(group, MOST_CORE_INDEX)
    rows = group.lane_rows
    first = tuple(range(len(rows)))
    seen, waiting = {first: True}, [first]
    while waiting:
        spots = waiting.pop()
        for sign in range(0, len(rows[0]), 2):
            sent = tuple([rows[spot][sign] for spot in spots])
            if sent not in seen:
                seen[sent] = True
                waiting.append(sent)
    return len(seen)
