"""How many words of a group have so many signs, and the rule by which these numbers go on."""

from signlanes.checks import check_count
from signlanes.errors import TooMany
from signlanes.groups import check_group, rows_rank
from signlanes.returning import Returns
from signlanes.rules import least_rule

MOST_LANES = 30


def how_many_members(group, signs):
    """How many words of a group have just so many signs."""
    check_group(group)
    check_count(signs)
    return Returns(group.lane_rows).in_all(signs)


def members_rule(group):
    """The rule with the fewest items that stands for the numbers of words of 0, 1, 2 and so on signs."""
    check_group(group)
    lanes = rows_rank(group.lane_rows) + len(group.lane_rows) - 1
    if lanes > MOST_LANES:
        raise TooMany(lanes)
    returns, most_items = Returns(group.lane_rows), 2 * lanes + 1
    return least_rule([returns.in_all(signs) for signs in range(2 * most_items)])
