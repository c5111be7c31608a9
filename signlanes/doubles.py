"""Double classes of words by two groups."""

from signlanes.branches import grown_rows
from signlanes.joints import joint_table
from signlanes.signs import written


class DoubleSearch:
    """A search for the first word of a double class, through words in their order.

    `grown` is the picture of the first group with the way of the word put on. A word of the double
    class is read there as far as there are lanes, and ends at a spot that is met by a spot of the
    other picture; what is left of it leads from that spot of the other picture to its start. What is
    found first is plain, since what it says would be found earlier.
    """

    def __init__(self, grown, end, other):
        self.left = grown
        self.right = other
        self.met = [[] for _ in grown]
        order, _ = joint_table([grown, other], (end, 0))
        for spot, there in order:
            self.met[spot].append(there)
        # Each entry is a word: the entry of what is ahead of its last sign, that sign, and the places that
        # it reaches and no word ahead of it does. The spots of the other picture are behind the first one's.
        self.entries = [(None, None, [0])]

    def led_places(self, place, sign):
        """The places to which a sign leads from one."""
        size = len(self.left)
        if place < size and self.left[place][sign] is not None:
            return [self.left[place][sign]]
        spots = self.met[place] if place < size else [place - size]
        return [size + self.right[spot][sign] for spot in spots if self.right[spot][sign] is not None]

    def is_end(self, place):
        """Whether a word that reaches a place is in the double class."""
        return place == len(self.left) or place < len(self.left) and 0 in self.met[place]

    def new_places(self, places, sign, seen):
        """The places to which a sign leads from some and to which no word ahead has led."""
        found = []
        for place in places:
            for reached in self.led_places(place, sign):
                if reached not in seen:
                    seen[reached] = True
                    found.append(reached)
        return found

    def first_word(self):
        """The first word of the double class."""
        seen, at = {0: True}, 0
        while not any([self.is_end(place) for place in self.entries[at][2]]):
            for sign in range(len(self.left[0])):
                found = self.new_places(self.entries[at][2], sign, seen)
                if found:
                    self.entries.append((at, sign, found))
            at += 1
        return self.word_at(at)

    def word_at(self, at):
        """The word of an entry."""
        numbers = []
        while at != 0:
            at, sign, _ = self.entries[at]
            numbers.append(sign)
        return written(numbers[::-1])


def first_double_word(one, numbers, other):
    """The first word of the double class of a plain word by the groups with two pictures."""
    grown, end = grown_rows(one, numbers)
    return DoubleSearch(grown, end, other).first_word()


def are_in_one_double(one, numbers, other, sought):
    """Whether two plain words are in one double class."""
    grown, end = grown_rows(one, numbers)
    grown, sought_end = grown_rows(grown, sought)
    order, _ = joint_table([grown, other], (end, 0))
    return (sought_end, 0) in order
