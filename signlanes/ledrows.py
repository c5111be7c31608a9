"""Rows of round words that maps of letters lead to one another."""

from signlanes.checks import is_whole
from signlanes.cuts import cut_back, is_cut_or_renaming
from signlanes.errors import InvalidList, Unlike
from signlanes.flows import tie_table
from signlanes.leastrows import least_behind, lessening_cut, size_of
from signlanes.levelsearch import LevelSearch
from signlanes.roundrows import check_round_row, turned_row

MOST_CUTS = 3000


def level_rows(many, row):
    """All rows to which cuts and renamings that leave the size as it is lead from a least row, in order."""
    check_round_row(many, row)
    if lessening_cut(tie_table(many, row)) is not None:
        raise InvalidList(row)
    return LevelSearch(many, row).sorted_rows()


def check_two_round_rows(many, one, other):
    """Refuse what are no two rows of as many round words."""
    check_round_row(many, one)
    check_round_row(many, other)
    if len(one) != len(other):
        raise Unlike(other)


def rows_led(many, one, other):
    """How a map of letters that can be undone leads one row to another one, or why there is none."""
    check_two_round_rows(many, one, other)
    cuts, first = least_behind(many, one)
    other_cuts, last = least_behind(many, other)
    if size_of(first) != size_of(last):
        return ("sizes", size_of(first), size_of(last))
    search = LevelSearch(many, first)
    if not search.has(last):
        return ("apart", search.sorted_rows())
    return ("led", cuts + search.cuts_to(last) + [cut_back(cut) for cut in other_cuts[::-1]])


def is_led(many, one, other, value):
    """Whether a value is a tuple that tells how one row is led to another one, or why it is not."""
    check_two_round_rows(many, one, other)
    if not isinstance(value, tuple) or len(value) not in (2, 3) or not isinstance(value[0], str):
        return False
    if len(value) == 3:
        return value[0] == "sizes" and are_sizes(many, one, other, value[1], value[2])
    if value[0] == "led":
        return do_cuts_lead(many, one, other, value[1])
    return value[0] == "apart" and are_apart(many, one, other, value[1])


def are_sizes(many, one, other, first, last):
    """Whether values are the unlike sizes of the least rows of two rows."""
    if not is_whole(first) or not is_whole(last) or first == last:
        return False
    sizes = [size_of(least_behind(many, row)[1]) for row in (one, other)]
    return [first, last] == sizes


def do_cuts_lead(many, one, other, cuts):
    """Whether a value is a list of cuts and renamings that leads one row to another one by none that is too great."""
    if not isinstance(cuts, list) or len(cuts) > MOST_CUTS:
        return False
    row, most = one, max(size_of(one), size_of(other))
    for cut in cuts:
        if not is_cut_or_renaming(many, cut):
            return False
        row = turned_row(many, row, cut)
        if size_of(row) > most:
            return False
    return row == other


def are_apart(many, one, other, rows):
    """Whether two rows are apart, and a value is the list of the rows of one of them."""
    _, first = least_behind(many, one)
    _, last = least_behind(many, other)
    if size_of(first) != size_of(last):
        return False
    search = LevelSearch(many, first)
    return not search.has(last) and rows == search.sorted_rows()
