"""Groups above a group, and double classes."""

from signlanes.errors import InvalidGroup, TooMany
from signlanes.groupcounts import is_full
from signlanes.groups import check_group, check_like, group_with
from signlanes.links import link, link_end
from signlanes.pictures import united_rows
from signlanes.trees import finding_lanes, first_words, free_lanes

MOST_FRINGE_SPOTS = 8


def fringe(group):
    """The groups that come of putting spots together, those with fewer spots first."""
    check_group(group)
    if len(group.lane_rows) > MOST_FRINGE_SPOTS:
        raise TooMany(len(group.lane_rows))
    found = {}
    for parts in ways_to_part(len(group.lane_rows)):
        pairs = [(parts.index(part), spot) for spot, part in enumerate(parts)]
        rows = united_rows(group.lane_rows, pairs)
        found[picture_key(rows)] = rows
    return [group_with(group.letter_count, found[key]) for key in sorted(found)]


def ways_to_part(size):
    """All ways to part so many things into sets, as a list of the numbers of their sets."""
    ways = [[]]
    for _ in range(size):
        ways = [parts + [part] for parts in ways for part in range(max(parts, default=-1) + 2)]
    return ways


def picture_key(rows):
    """What stands for a picture in Python's order: fewer spots first, and None ahead of all numbers."""
    flat = [-1 if target is None else target for row in rows for target in row]
    return (len(rows), tuple(flat))


def is_greatest(group):
    """Whether a group of finite index above 1 has no group above it but itself and that of all words."""
    found = fringe(group)
    return is_full(group.lane_rows) and len(group.lane_rows) > 1 and len(found) == 2


def double_classes(one, other):
    """For each double class its first word and the number of classes of which it consists."""
    check_group(one)
    if not is_full(one.lane_rows):
        raise InvalidGroup(one)
    check_group(other)
    check_like(one, other)
    linked = linked_spots(one.lane_rows, other.lane_rows)
    ends = [link_end(linked, spot) for spot in range(len(linked))]
    return [(word, ends.count(spot)) for spot, word in enumerate(first_words(one.lane_rows)) if ends[spot] == spot]


def linked_spots(rows, other):
    """The spots of a picture with all lanes, linked where a word of a group with another picture leads on.

    Pairs of a spot of each picture are joined by lanes of the same sign in both. Each such pair is known
    by the spot that is in one with the start of the other picture, if only finding lanes are followed.
    """
    known = [list(range(len(rows)))]
    for found_from, sign in finding_lanes(other)[1:]:
        known.append([known[found_from][lanes[sign ^ 1]] for lanes in rows])
    linked = list(range(len(rows)))
    for spot, sign, target in free_lanes(other):
        for place, row in enumerate(rows):
            link(linked, known[spot][place], known[target][row[sign]])
    return linked
