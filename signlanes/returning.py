"""How many plain words lead from the spots of a picture back to its start."""


class Returns:
    """The plain words that are read along lanes and end at the start, counted by their signs.

    `sums` has a list for each number of signs: for each spot, how many such words there are with so
    many signs, with 2 less, with 4 less, and so on. For a lane, the words that begin with it are those
    from its end, without those that turn back; what turns back begins with the same lane the other
    way about, and so on by turns: so two of these sums give how many begin with a lane.
    """

    def __init__(self, rows):
        self.table = rows
        self.targets = [[target for target in row if target is not None] for row in rows]
        self.sums = [[1] + [0] * (len(rows) - 1)]

    def sum_at(self, spot, signs):
        """The sum of a spot for a number of signs, perhaps below 0."""
        if signs < 0:
            return 0
        while len(self.sums) <= signs:
            self.grow()
        return self.sums[signs][spot]

    def grow(self):
        """The sums for one sign more."""
        last = self.sums[-1]
        before = self.sums[-2] if len(self.sums) > 1 else [0] * len(last)
        grown = []
        for spot, ends in enumerate(self.targets):
            grown.append(sum([last[end] for end in ends]) - (len(ends) - 1) * before[spot])
        self.sums.append(grown)

    def by_lane(self, spot, sign, signs):
        """How many words of so many signs begin with a sign from a spot."""
        target = self.table[spot][sign]
        if target is None:
            return 0
        return self.sum_at(target, signs - 1) - self.sum_at(spot, signs - 2)

    def from_spot(self, spot, signs):
        """How many words of so many signs lead from a spot back to the start."""
        return self.sum_at(spot, signs) - self.sum_at(spot, signs - 2)

    def in_all(self, signs):
        """How many words of the group have just so many signs."""
        return self.from_spot(0, signs)

    def shorter(self, signs):
        """How many words of the group have fewer signs."""
        return self.sum_at(0, signs - 1) + self.sum_at(0, signs - 2)

    def choices(self, last, least):
        """The signs from a number on that may stand behind a sign."""
        return [sign for sign in range(least, len(self.table[0])) if last is None or sign != last ^ 1]

    def place_of(self, numbers):
        """How many words of the group are ahead of one of them."""
        found, spot, last = self.shorter(len(numbers)), 0, None
        for at, number in enumerate(numbers):
            for sign in self.choices(last, 0):
                if sign < number:
                    found += self.by_lane(spot, sign, len(numbers) - at)
            spot, last = self.table[spot][number], number
        return found

    def word_at(self, place, signs):
        """The numbers of the word of the group with a place among those of so many signs."""
        numbers, spot, last = [], 0, None
        for left in range(signs, 0, -1):
            for sign in self.choices(last, 0):
                found = self.by_lane(spot, sign, left)
                if place < found:
                    break
                place -= found
            numbers.append(sign)
            spot, last = self.table[spot][sign], sign
        return numbers

    def next_of_signs(self, numbers):
        """The next word of the group behind a plain word that has as many signs, None without one."""
        passed = [0]
        while len(passed) <= len(numbers) and passed[-1] is not None:
            passed.append(self.table[passed[-1]][numbers[len(passed) - 1]])
        for at in range(min(len(passed), len(numbers)) - 1, -1, -1):
            if passed[at] is not None:
                last = numbers[at - 1] if at > 0 else None
                for sign in self.choices(last, numbers[at] + 1):
                    if self.by_lane(passed[at], sign, len(numbers) - at) > 0:
                        return self.filled_up(numbers[:at] + [sign], self.table[passed[at]][sign], len(numbers))
        return None

    def filled_up(self, numbers, spot, signs):
        """The first word of the group with such signs first, the last of which leads to a spot."""
        while len(numbers) < signs:
            last = numbers[-1] if numbers else None
            for sign in self.choices(last, 0):
                if self.by_lane(spot, sign, signs - len(numbers)) > 0:
                    break
            numbers, spot = numbers + [sign], self.table[spot][sign]
        return numbers

    def next_member(self, numbers):
        """The next word of the group, which has more than the empty one, behind a plain word."""
        found = self.next_of_signs(numbers)
        signs = len(numbers)
        while found is None:
            signs += 1
            if self.in_all(signs) > 0:
                found = self.filled_up([], 0, signs)
        return found
