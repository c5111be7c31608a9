"""Ties of rows of round words, and the rows that no cut makes less."""

from signlanes.checks import MOST_SIGNS, is_word_list
from signlanes.flows import greatest_flow, single_ways, tie_table
from signlanes.roundrows import check_cut, check_round_row, turned_row
from signlanes.signs import SIGNS, sign_numbers, written


def ties(many, row):
    """The pairs of signs that have ties in a row, and how many."""
    check_round_row(many, row)
    table = tie_table(many, row)
    return [(SIGNS[one], SIGNS[other], table[one][other])
            for one in range(2 * many) for other in range(one + 1, 2 * many) if table[one][other] > 0]


def change(many, row, cut):
    """By how many signs the size of a row grows by a cut or a renaming."""
    check_round_row(many, row)
    check_cut(many, cut)
    if isinstance(cut, str):
        return 0
    return growth(tie_table(many, row), sign_numbers(cut[0])[0], sign_numbers(cut[1]))


def growth(table, sign, side):
    """The same, of the ties of a row, for a cut told by the numbers of its signs."""
    others = [other for other in range(len(table)) if other not in side]
    return sum([table[one][other] for one in side for other in others]) - sum(table[sign])


def least(many, row):
    """Cuts each of which makes the size of a row less, and the least row to which they lead."""
    check_round_row(many, row)
    return least_behind(many, row)


def least_behind(many, row):
    """The same without checks."""
    cuts, found = [], list(row)
    cut = lessening_cut(tie_table(many, found))
    while cut is not None:
        cuts.append(cut)
        found = turned_row(many, found, cut)
        cut = lessening_cut(tie_table(many, found))
    return (cuts, found)


def lessening_cut(table):
    """The cut that makes the size the least, None if none makes it less."""
    found = []
    for sign in range(0, len(table), 2):
        flow, _, side = greatest_flow(table, sign)
        if flow < sum(table[sign]):
            found.append((flow - sum(table[sign]), sign, sorted(side)))
    if not found:
        return None
    _, first, first_side = min(found)
    return (SIGNS[first], written(first_side))


def size_of(row):
    """The number of signs of all words of a row."""
    return sum([len(word) for word in row])


def least_paper(many, row):
    """For each letter its ways along ties to its opposite, as many as it stands in a row; None if there are none."""
    check_round_row(many, row)
    table, found = tie_table(many, row), []
    for sign in range(0, 2 * many, 2):
        flow, left, _ = greatest_flow(table, sign)
        if flow < sum(table[sign]):
            return None
        found.append([written(way) for way in single_ways(table, left, sign)])
    return found


def is_least_paper(many, row, value):
    """Whether a value is a list of such ways for a row."""
    check_round_row(many, row)
    if not isinstance(value, list) or len(value) != many:
        return False
    table = tie_table(many, row)
    return all([are_ways(table, 2 * letter, ways) for letter, ways in enumerate(value)])


def are_ways(table, sign, value):
    """Whether a value is a list of as many ways of a letter as it needs, in the bounds of the ties."""
    if not is_word_list(len(table) // 2, value, MOST_SIGNS) or len(value) != sum(table[sign]):
        return False
    left = [list(row) for row in table]
    for way in value:
        numbers = sign_numbers(way)
        if numbers == [] or numbers[0] != sign or numbers[-1] != sign ^ 1:
            return False
        for at in range(len(numbers) - 1):
            one, other = numbers[at], numbers[at + 1]
            left[one][other] -= 1
            left[other][one] -= 1
            if left[one][other] < 0:
                return False
    return True
