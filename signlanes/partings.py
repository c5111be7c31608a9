"""The first word that can be read back to the start in one of two pictures and not in the other one."""

from signlanes.signs import written


class Search:
    """A search through pairs of spots of two pictures, by plain words in their order.

    It is for a word of either picture, or, if not `either`, for one of the first picture.
    """

    def __init__(self, one, other, either):
        self.either = either
        self.left = with_nowhere(one)
        self.right = with_nowhere(other)
        # Each entry is a word: its two spots, its last sign, and the entry of what is ahead of that.
        self.entries = [(0, 0, None, None)]
        self.left_out = {}

    def signs_to_try(self, entry):
        """The signs by which words go on that have not gone on so from this pair of spots."""
        pair, last = (entry[0], entry[1]), entry[2]
        back = None if last is None else last ^ 1
        if pair not in self.left_out:
            self.left_out[pair] = back
            return [sign for sign in range(len(self.left[0])) if sign != back]
        # A first word has gone on by all signs but one; that one is left for a word with another end.
        last_left = self.left_out[pair]
        if last_left is None or last_left == back:
            return []
        self.left_out[pair] = None
        return [last_left]

    def goes_on(self, left, right):
        """Whether a word that leads to a pair of spots can go on to one that is sought."""
        return left < len(self.left) - 1 or self.either and right < len(self.right) - 1

    def is_sought(self, left, right):
        """Whether a word that leads to a pair of spots is sought."""
        return left == 0 and right != 0 or self.either and left != 0 and right == 0

    def first_word(self):
        """The first word that leads to one of both starts and not to the other one, None without one."""
        at = 0
        while at < len(self.entries):
            entry = self.entries[at]
            for sign in self.signs_to_try(entry):
                left, right = self.left[entry[0]][sign], self.right[entry[1]][sign]
                if self.goes_on(left, right):
                    self.entries.append((left, right, sign, at))
                    if self.is_sought(left, right):
                        return self.last_word()
            at += 1
        return None

    def last_word(self):
        """The word of the last entry."""
        numbers, at = [], len(self.entries) - 1
        while at != 0:
            numbers.append(self.entries[at][2])
            at = self.entries[at][3]
        return written(numbers[::-1])


def with_nowhere(rows):
    """The rows with one more spot, to which each sign leads that has no lane."""
    nowhere = len(rows)
    full = [[nowhere if target is None else target for target in row] for row in rows]
    return full + [[nowhere] * len(rows[0])]


def first_parting(one, other):
    """The first plain word that just one of two pictures reads back to its start, None without one."""
    return Search(one, other, True).first_word()


def first_missing(one, other):
    """The first plain word that a picture reads back to its start and another one does not, None without one."""
    return Search(one, other, False).first_word()
