"""Folded pictures of lists of words, as tables of lanes.

A table has a row for each spot: the spot to which each sign has its lane, None if it has none.
Signs are numbers here, those of a pair differ in the last bit, and there may be any number of pairs.
"""

from signlanes.checks import is_whole
from signlanes.signs import reduced, sign_numbers

MOST_SPOTS = 300


class Weave:
    """A table of lanes in which ways of words are put, and which is folded behind each of them."""

    def __init__(self, size):
        self.size = size
        self.lanes = [[None] * size]
        self.merged = [0]

    def new_spot(self):
        """A spot without lanes."""
        self.lanes.append([None] * self.size)
        self.merged.append(len(self.merged))
        return len(self.merged) - 1

    def living(self, spot):
        """The spot with which a spot has been put together."""
        while self.merged[spot] != spot:
            self.merged[spot] = self.merged[self.merged[spot]]
            spot = self.merged[spot]
        return spot

    def lay(self, spot, sign, other):
        """Lay a lane, and its lane back, where there are none."""
        self.lanes[spot][sign] = other
        self.lanes[other][sign ^ 1] = spot

    def put_table(self, rows):
        """Put in a table of its own, folded already; the number of its first spot is returned."""
        first = len(self.lanes)
        for row in rows:
            self.lanes.append([None if target is None else first + target for target in row])
            self.merged.append(len(self.merged))
        return first

    def put_loop(self, numbers):
        """Put in a loop at spot 0 for a plain word."""
        self.put_path(0, 0, numbers)

    def put_path(self, one, other, numbers):
        """Put in a way of a plain word between two spots; only what cannot be read yet needs new spots."""
        head, low = self.read_on(one, numbers)
        tail, high = self.read_back(other, numbers, low)
        while head == tail and high - low > 1 and numbers[low] == numbers[high - 1] ^ 1:
            # Both ends of what is left would leave this spot by the same sign.
            spot = self.new_spot()
            self.lay(head, numbers[low], spot)
            head, tail, low, high = spot, spot, low + 1, high - 1
        if low == high:
            self.unite(head, tail)
            return
        for at in range(low, high - 1):
            spot = self.new_spot()
            self.lay(head, numbers[at], spot)
            head = spot
        self.lay(head, numbers[high - 1], tail)

    def read_on(self, spot, numbers):
        """The spot to which the first signs lead from one, as far as there are lanes, and how many they are."""
        at = 0
        while at < len(numbers) and self.lanes[spot][numbers[at]] is not None:
            spot, at = self.lanes[spot][numbers[at]], at + 1
        return (spot, at)

    def read_back(self, spot, numbers, low):
        """The spot from which the last signs lead to one, and where they begin, not below a place."""
        at = len(numbers)
        while at > low and self.lanes[spot][numbers[at - 1] ^ 1] is not None:
            spot, at = self.lanes[spot][numbers[at - 1] ^ 1], at - 1
        return (spot, at)

    def unite(self, one, other):
        """Put two spots together, and all that have to be put together then."""
        pairs = [(one, other)]
        while pairs:
            left, right = pairs.pop()
            left, right = self.living(left), self.living(right)
            if left != right:
                pairs.extend(self.merge(min(left, right), max(left, right)))

    def merge(self, kept, gone):
        """Lead the lanes of a spot to another one; what has to be put together then is returned."""
        self.merged[gone] = kept
        found = []
        for sign in range(self.size):
            target = self.lanes[gone][sign]
            if target is not None:
                self.lanes[gone][sign] = None
                self.lanes[target][sign ^ 1] = None
                found.extend(self.link(kept, sign, kept if target == gone else target))
        return found

    def link(self, spot, sign, other):
        """Lay a lane unless one is there; then the pair of the spots that both reach is returned."""
        if self.lanes[spot][sign] is not None:
            return [(self.lanes[spot][sign], other)]
        if self.lanes[other][sign ^ 1] is not None:
            return [(self.lanes[other][sign ^ 1], spot)]
        self.lay(spot, sign, other)
        return []


def numbered_rows(lanes, start):
    """The rows of the spots reached from a start, numbered in the order in which they are found."""
    numbers, order, at = {start: 0}, [start], 0
    while at < len(order):
        row = lanes[order[at]]
        for target in row:
            if target is not None and target not in numbers:
                numbers[target] = len(order)
                order.append(target)
        at += 1
    return [[None if end is None else numbers[end] for end in lanes[spot]] for spot in order]


def folded_rows(size, loops):
    """The picture of the group of some plain words, handed in as lists of numbers of signs."""
    weave = Weave(size)
    for numbers in loops:
        weave.put_loop(numbers)
    return numbered_rows(weave.lanes, 0)


def united_rows(rows, pairs):
    """What a folded table becomes if pairs of spots are put together, numbered from spot 0 on."""
    weave = Weave(len(rows[0]))
    first = weave.put_table(rows)
    for one, other in pairs:
        weave.unite(first + one, first + other)
    return numbered_rows(weave.lanes, weave.living(first))


def woven_rows(size, spots, lanes, pairs):
    """What so many spots with lanes become if pairs of spots are put together, and all that follows."""
    weave = Weave(size)
    first = weave.put_table([[None] * size for _ in range(spots)])
    for one, sign, other in lanes:
        found = weave.link(weave.living(first + one), sign, weave.living(first + other))
        for left, right in found:
            weave.unite(left, right)
    for one, other in pairs:
        weave.unite(first + one, first + other)
    return numbered_rows(weave.lanes, weave.living(first))


def joined_rows(one, other):
    """The picture of the group of all words of two groups with such pictures."""
    weave = Weave(len(one[0]))
    weave.unite(weave.put_table(one), weave.put_table(other))
    return numbered_rows(weave.lanes, weave.living(1))


def picture_rows(many, words):
    """The picture of the group of a list of words, with any number of spots."""
    return folded_rows(2 * many, [sign_numbers(reduced(word)) for word in words])


def copied_rows(rows):
    """The same rows in new lists."""
    return [list(row) for row in rows]


def spots_passed(rows, numbers):
    """The spots that a plain word passes from the start, as far as there are lanes."""
    passed = [0]
    for number in numbers:
        target = rows[passed[-1]][number]
        if target is None:
            return passed
        passed.append(target)
    return passed


def reads_back(rows, word):
    """Whether a plain word can be read from the start back to the start."""
    passed = spots_passed(rows, sign_numbers(word))
    return len(passed) == len(word) + 1 and passed[-1] == 0


def is_picture_rows(size, value):
    """Whether a value is the picture of a group, for so many signs."""
    if not isinstance(value, list) or not 1 <= len(value) <= MOST_SPOTS:
        return False
    if not all([is_lane_row(size, len(value), row) for row in value]):
        return False
    if not all([has_lanes_back(value, spot) for spot in range(len(value))]):
        return False
    # A spot but the start with one lane alone is on no way of a plain word back to the start.
    if any([row.count(None) > size - 2 for row in value[1:]]):
        return False
    return numbered_rows(value, 0) == value


def is_lane_row(size, spots, row):
    """Whether a value has a spot below a number, or None, for each sign."""
    if not isinstance(row, list) or len(row) != size:
        return False
    return all([item is None or is_whole(item) and 0 <= item < spots for item in row])


def has_lanes_back(rows, spot):
    """Whether each lane from a spot has its lane back."""
    row = rows[spot]
    return all([target is None or rows[target][sign ^ 1] == spot for sign, target in enumerate(row)])
