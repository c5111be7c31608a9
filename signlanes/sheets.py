"""Sketches, and how they are folded spot by spot."""

from signlanes.checks import is_count, is_whole
from signlanes.signs import SIGNS, reduced

SIGN_COUNT = 12
LETTERS = "abcdef"


def sketch_of(words):
    """The sketch of the rounds of a list of words."""
    spots, lanes = 1, []
    for word in words:
        said, at = reduced(word), 0
        for place, sign in enumerate(said):
            target = spots + place if place < len(said) - 1 else 0
            lanes.append((at, sign, target) if sign.islower() else (target, sign.lower(), at))
            at = target
        spots += max(0, len(said) - 1)
    return (spots, sorted(set(lanes)))


def is_sketch(value, most):
    """Whether a value is a sketch with at most so many spots."""
    if not isinstance(value, tuple) or len(value) != 2:
        return False
    spots, lanes = value
    if not is_whole(spots) or not 1 <= spots <= most or not isinstance(lanes, list):
        return False
    if not all([is_sketch_lane(spots, lane) for lane in lanes]):
        return False
    return all([lanes[at] < lanes[at + 1] for at in range(len(lanes) - 1)])


def is_sketch_lane(spots, lane):
    """Whether a value is a lane of a sketch with so many spots."""
    if not isinstance(lane, tuple) or len(lane) != 3:
        return False
    spot, letter, other = lane
    if not is_count(spot) or not is_count(other) or spot >= spots or other >= spots:
        return False
    return isinstance(letter, str) and len(letter) == 1 and letter in LETTERS


def is_spot_pair(value, spots):
    """Whether a value is a tuple of two spots, the first one less than the second one."""
    if not isinstance(value, tuple) or len(value) != 2:
        return False
    kept, gone = value
    return is_count(kept) and is_count(gone) and kept < gone < spots


def is_fold(sketch, value):
    """Whether a value is a fold of a sketch."""
    spots, lanes = sketch
    if not is_spot_pair(value, spots):
        return False
    kept, gone = value
    kept_ends = set(lane_ends(lanes, kept))
    for end in lane_ends(lanes, gone):
        if end in kept_ends:
            return True
    return False


def lane_ends(lanes, spot):
    """The signs that lead to a spot, each with the spot from which it does."""
    ends = [(letter, one) for one, letter, other in lanes if other == spot]
    return ends + [(letter.upper(), other) for one, letter, other in lanes if one == spot]


def put_together(sketch, fold):
    """The sketch that a fold leads to."""
    spots, lanes = sketch
    kept, gone = fold
    numbers = list(range(gone)) + [kept] + list(range(gone, spots - 1))
    return (spots - 1, sorted({(numbers[one], letter, numbers[other]) for one, letter, other in lanes}))


class Sheet:
    """A sketch that is folded step by step.

    Spots have the numbers here that they have in the first sketch. The number that a spot has at
    last is its place among those that are left, since the greater one of two is always the one gone.
    """

    def __init__(self, sketch):
        spots, lanes = sketch
        self.left = list(range(spots))
        self.targets = [[{} for _ in range(SIGN_COUNT)] for _ in range(spots)]
        for one, letter, other in lanes:
            self.lay(one, SIGNS.index(letter), other)

    def lay(self, one, sign, other):
        """Lay a lane and its lane back."""
        self.targets[one][sign][other] = True
        self.targets[other][sign ^ 1][one] = True

    def forked(self, spot):
        """The signs that lead from a spot to more than one spot, each in a tuple behind the spot."""
        return [(spot, sign) for sign in range(SIGN_COUNT) if len(self.targets[spot][sign]) > 1]

    def all_forked(self):
        """The same for all spots that are left."""
        return [fork for spot in self.left for fork in self.forked(spot)]

    def can_fold(self, kept, gone):
        """Whether a sign leads from one spot to both."""
        for sign in range(SIGN_COUNT):
            for source in self.targets[kept][sign]:
                if source in self.targets[gone][sign]:
                    return True
        return False

    def fold(self, kept, gone):
        """Put a spot together with a lesser one."""
        self.left.remove(gone)
        for sign in range(SIGN_COUNT):
            for target in list(self.targets[gone][sign]):
                del self.targets[gone][sign][target]
                if target != gone:
                    del self.targets[target][sign ^ 1][gone]
                    self.lay(kept, sign, target)
                else:
                    del self.targets[gone][sign ^ 1][gone]
                    self.lay(kept, sign, kept)
