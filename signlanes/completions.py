"""How parts of pictures go on to pictures in which every sign has a lane from each spot."""

from signlanes.places import powers


def factorials(most):
    """The products of the numbers from 1 up to 0, 1, 2 and so on."""
    found = [1]
    for number in range(1, most + 1):
        found.append(found[-1] * number)
    return found


class Completions:
    """How many pictures with so many spots go on from a part of one.

    The part has the start, is joined by lanes, and its spots have their numbers; only how many spots
    it has, and how many lanes of each letter, matters. All ways to give each letter its other lanes
    are counted, whatever they join; those in which the part is joined with fewer spots than all are
    taken off.
    """

    def __init__(self, many, size):
        self.size = size
        self.orders = factorials(size)
        # How many ways there are for the spots that are not joined, less the choices of their numbers.
        self.apart = [powers(order, many - 1)[-1] for order in self.orders]
        self.known = {}

    def ways_on(self, spots, lanes):
        """How many pictures go on from a part with so many spots and lanes of each letter."""
        key = (spots, tuple(sorted(lanes)))
        if key not in self.known:
            self.known[key] = self.counted(spots, lanes)
        return self.known[key]

    def counted(self, spots, lanes):
        """The same, worked out."""
        joined = []
        for size in range(spots, self.size + 1):
            ways = 1
            for number in lanes:
                ways *= self.orders[size - number]
            ways //= self.orders[size - spots]
            for fewer, count in enumerate(joined):
                ways -= count * self.apart[size - spots - fewer]
            joined.append(ways)
        return joined[-1]
