"""Pictures in which the spots that only lead on are left out.

A strand is a way, in a picture, from a spot that branches to the next one; the start counts among these.
Plain words of the picture's group pass whole strands, so they can be read strand by strand. Strands have
numbers as signs have: one and its opposite differ in the last bit.
"""

from signlanes.trimming import lanes_of


class Strands:
    """The strands that plain words of the group with a picture pass, as lists of signs."""

    def __init__(self, rows):
        self.table = rows
        self.numbers = {}
        self.ways = []

    def branches(self, spot):
        """Whether a spot is the start, or has lanes of more signs than two."""
        row = self.table[spot]
        return spot == 0 or len(row) - row.count(None) > 2

    def read(self, signs):
        """The numbers of the strands that a plain word of the group passes."""
        found, first, spot, way = [], 0, 0, []
        for sign in signs:
            way.append(sign)
            spot = self.table[spot][sign]
            if self.branches(spot):
                found.append(self.number_of(first, way, spot))
                first, way = spot, []
        return found

    def number_of(self, first, way, last):
        """The number of the strand of a way, which is new or has been passed before."""
        if (first, way[0]) not in self.numbers:
            self.numbers[(first, way[0])] = 2 * len(self.ways)
            self.numbers[(last, way[-1] ^ 1)] = 2 * len(self.ways) + 1
            self.ways.append(way)
        return self.numbers[(first, way[0])]

    def strands_in(self, rows):
        """The lanes of a table of strands, each once, as spot, signs of the strand and spot."""
        return [(spot, self.ways[number // 2], target) for spot, row in enumerate(rows)
                for number, target in lanes_of(row) if number & 1 == 0]


def table_of_strands(size, spots, strands):
    """A table of so many spots, and more, in which strands between them are lanes, sign by sign."""
    table = [[None] * size for _ in range(spots)]
    for first, signs, last in strands:
        spot = first
        for sign in signs[:-1]:
            table.append([None] * size)
            lay(table, spot, sign, len(table) - 1)
            spot = len(table) - 1
        lay(table, spot, signs[-1], last)
    return table


def lay(table, spot, sign, other):
    """Lay a lane and its lane back."""
    table[spot][sign] = other
    table[other][sign ^ 1] = spot
