"""How words of a group are made, step by step, from the list of words that the group was made from."""

from signlanes.pictures import spots_passed
from signlanes.signs import SIGNS, glued, order_key, sign_numbers, undone

MOST_ITEMS = 12


class Lift:
    """Rounds of plain words that are folded, with steps that make every word on the way.

    Each spot has a word that leads to it from the start. Of a lane, and of two spots that are put
    together, only the word of the group matters to which the words of both ends make it: as soon as
    that word has been made once, nothing more is needed. A word is known by a tuple of items: of none
    for the empty word, of one for all others, the number of a word of the list or of a step and a side.
    """

    def __init__(self, many, words):
        self.size = 2 * many
        self.given = len(words)
        self.steps = []
        self.known = {"": ()}
        self.leads = [""]
        self.lanes = [[None] * self.size]
        self.moved = [0]
        self.waiting = []
        for number, word in enumerate(words):
            self.learn(word, ((number, 1),))
            self.put_round(word)

    def learn(self, word, items):
        """Make a word, and its opposite, unless this has been done."""
        if word not in self.known:
            kept = self.gathered(trimmed(items))
            if len(kept) > 1:
                kept = self.one_item(kept)
            self.known[word] = kept
            self.known[undone(word)] = turned_back(kept)

    def one_item(self, items):
        """A new step of these items, as the tuple of its one item."""
        self.steps.append(items)
        return ((self.given + len(self.steps) - 1, 1),)

    def gathered(self, items):
        """Items that say the same as these, as few as a step may have."""
        while len(items) > MOST_ITEMS:
            parts = [items[at:at + MOST_ITEMS] for at in range(0, len(items), MOST_ITEMS)]
            items = ()
            for part in parts:
                items = items + (part if len(part) == 1 else self.one_item(part))
        return items

    def put_round(self, word):
        """Put in the round of a plain word and fold."""
        spot, half = 0, len(word) // 2
        for at in range(1, len(word) + 1):
            # The word that leads to a spot is the shorter one of both ways along the round.
            lead = word[:at] if at <= half else undone(word[at:])
            target = 0 if at == len(word) else self.new_spot(lead)
            self.link(spot, SIGNS.index(word[at - 1]), target)
            spot = target
        while self.waiting:
            one, other = self.waiting.pop()
            self.unite(one, other)

    def new_spot(self, lead):
        """A spot without lanes to which a word leads."""
        self.leads.append(lead)
        self.lanes.append([None] * self.size)
        self.moved.append(len(self.moved))
        return len(self.moved) - 1

    def between(self, one, other):
        """The word of the group by which the words of two spots that are one at last differ."""
        return glued(self.leads[one], undone(self.leads[other]))

    def along(self, spot, sign, other):
        """The word of the group for which a lane stands."""
        return glued(glued(self.leads[spot], SIGNS[sign]), undone(self.leads[other]))

    def link(self, spot, sign, other):
        """Lay a lane whose word is known, or see that the two spots that it shows to be one become one."""
        there, behind = self.lanes[spot][sign], self.lanes[other][sign ^ 1]
        if there is not None:
            self.compare(spot, sign, there, other)
        elif behind is not None:
            self.compare(other, sign ^ 1, behind, spot)
        else:
            self.lanes[spot][sign] = other
            self.lanes[other][sign ^ 1] = spot

    def compare(self, spot, sign, one, other):
        """Note that a sign leads from one spot to two spots."""
        if one != other:
            items = turned_back(self.known[self.along(spot, sign, one)]) + self.known[self.along(spot, sign, other)]
            self.learn(self.between(one, other), items)
            self.waiting.append((one, other))

    def living(self, spot):
        """The spot with which a spot has been put together; the word between them is known then."""
        chain = [spot]
        while self.moved[chain[-1]] != chain[-1]:
            chain.append(self.moved[chain[-1]])
        items = ()
        for at in range(len(chain) - 1):
            items = self.known[self.between(chain[at + 1], chain[at])] + items
        self.learn(self.between(chain[-1], spot), items)
        self.moved[spot] = chain[-1]
        return chain[-1]

    def unite(self, one, other):
        """Put together two spots between which the word is known."""
        left, right = self.living(one), self.living(other)
        if left != right:
            items = self.known[self.between(left, one)] + self.known[self.between(one, other)]
            self.learn(self.between(left, right), items + self.known[self.between(other, right)])
            if order_key(self.leads[left]) < order_key(self.leads[right]):
                self.merge(left, right)
            else:
                self.merge(right, left)

    def merge(self, kept, gone):
        """Lead the lanes of a spot to another one."""
        self.moved[gone] = kept
        ahead = self.known[self.between(kept, gone)]
        for sign in range(self.size):
            target = self.lanes[gone][sign]
            if target is not None:
                items = ahead + self.known[self.along(gone, sign, target)]
                self.lanes[gone][sign] = None
                self.lanes[target][sign ^ 1] = None
                if target == gone:
                    target, items = kept, items + turned_back(ahead)
                self.learn(self.along(kept, sign, target), items)
                self.link(kept, sign, target)

    def paper_of(self, word):
        """Steps, the last one of which says a plain word of the group."""
        numbers = sign_numbers(word)
        passed, items = spots_passed(self.lanes, numbers), ()
        for at, sign in enumerate(numbers):
            items = items + self.known[self.along(passed[at], sign, passed[at + 1])]
        items = self.gathered(trimmed(items))
        return needed_steps(self.given, self.steps + [items]) if items else []


def turned_back(items):
    """The items that say the opposite."""
    return tuple([(number, -side) for number, side in items[::-1]])


def trimmed(items):
    """The items without those that stand beside their opposites."""
    kept = []
    for number, side in items:
        if kept and kept[-1] == (number, -side):
            kept.pop()
        else:
            kept.append((number, side))
    return tuple(kept)


def needed_steps(given, steps):
    """The paper of the last one of some steps and of those that it needs."""
    needed = [False] * (len(steps) - 1) + [True]
    for at in range(len(steps) - 1, -1, -1):
        if needed[at]:
            for named, _ in steps[at]:
                if named >= given:
                    needed[named - given] = True
    numbers, found = list(range(given)), []
    for at, step in enumerate(steps):
        # A step that is not needed keeps its place in the table, but is named nowhere.
        numbers.append(given + len(found))
        if needed[at]:
            found.append([(numbers[number], side) for number, side in step])
    return found
