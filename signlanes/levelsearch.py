"""A search through all least rows of one size to which cuts and renamings lead."""

from signlanes.cuts import single_renamings
from signlanes.errors import TooMany
from signlanes.flows import tie_table
from signlanes.leastrows import growth
from signlanes.roundrows import turned_row
from signlanes.signs import SIGNS, order_key, written

MOST_LEVEL_ROWS = 600


class LevelSearch:
    """The rows that are found from a least row, each with the row and the cut that led to it first.

    A cut for the opposite of a letter with all signs that are not in the side turns a row as the cut for
    the letter does, so those for the letters are enough; and single exchanges make all renamings.
    """

    def __init__(self, many, row):
        self.many_letters = many
        self.sides = [(sign, side) for sign in range(0, 2 * many, 2) for side in sides_with(sign, 2 * many)]
        self.renamings = single_renamings(many)
        self.order = [row]
        self.found_from = {tuple(row): None}
        at = 0
        while at < len(self.order):
            self.go_on(self.order[at])
            at += 1

    def go_on(self, row):
        """Find the rows to which one cut or renaming leads."""
        table = tie_table(self.many_letters, row)
        cuts = [(SIGNS[sign], written(side)) for sign, side in self.sides if growth(table, sign, side) == 0]
        for cut in cuts + self.renamings:
            found = turned_row(self.many_letters, row, cut)
            if tuple(found) not in self.found_from:
                self.found_from[tuple(found)] = (row, cut)
                self.order.append(found)
                if len(self.order) > MOST_LEVEL_ROWS:
                    raise TooMany(MOST_LEVEL_ROWS + 1)

    def has(self, row):
        """Whether a row is found."""
        return tuple(row) in self.found_from

    def sorted_rows(self):
        """All rows, in the order of their words, in new lists."""
        keyed = sorted([[order_key(word) for word in row] + [row] for row in self.order])
        return [list(entry[-1]) for entry in keyed]

    def cuts_to(self, row):
        """The cuts and renamings that lead from the first row to one that is found."""
        cuts, step = [], self.found_from[tuple(row)]
        while step is not None:
            earlier, cut = step
            cuts.append(cut)
            step = self.found_from[tuple(earlier)]
        return cuts[::-1]


def sides_with(sign, size):
    """All sides, in order, that have a sign and not its opposite, but for those that leave all rows as they are."""
    found = [[]]
    for other in range(size):
        if other == sign:
            found = [side + [other] for side in found]
        elif other != sign ^ 1:
            found = found + [side + [other] for side in found]
    return [side for side in found if 1 < len(side) < size - 1]
