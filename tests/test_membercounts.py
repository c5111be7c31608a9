"""Tests of promises 22 and 23."""

import unittest
from fractions import Fraction

from signlanes.errors import InvalidGroup, InvalidNumber, TooMany
from signlanes.groups import Group, group_of
from signlanes.membercounts import how_many_members, members_rule
from tests.helpers import (WRONG_COUNT, WRONG_GROUP, chance_of, check_error, check_owned, check_quick, check_wrong,
                           full_picture, lane_total, plain_words, random_group, slow_member, told)


def rank_of(rows):
    """The rank of a square table of numbers."""
    rows, rank = [[Fraction(item) for item in row] for row in rows], 0
    for column in range(len(rows)):
        at = next((at for at in range(rank, len(rows)) if rows[at][column]), None)
        if at is not None:
            rows[rank], rows[at] = rows[at], rows[rank]
            for other in rows[rank + 1:]:
                times = other[column] / rows[rank][column]
                other[:] = [item - times * head for item, head in zip(other, rows[rank])]
            rank += 1
    return rank


def going_on(rule, size):
    """The first numbers for which a rule stands."""
    firsts, steps = rule
    numbers = list(firsts)
    while len(numbers) < size:
        numbers.append(sum(step * number for step, number in zip(steps, reversed(numbers))))
    return numbers[:size]


class ExampleTest(unittest.TestCase):
    def test_examples(self):
        half = Group(2, ["aa", "b", "abA"])
        self.assertEqual([[how_many_members(half, signs) for signs in range(3)], members_rule(Group(1, ["aa"]))],
                         [[1, 2, 4], ([1, 0, 2], [0, 1, 0])])

    def test_names_of_arguments(self):
        self.assertEqual(how_many_members(group=Group(1, ["aa"]), signs=2), 2)
        self.assertEqual(members_rule(group=Group(1, [])), ([1], [0]))


class CountTest(unittest.TestCase):
    def test_against_slow(self):
        chance = chance_of(70)
        for many, most in ((1, 12), (2, 6), (3, 4), (6, 2)):
            words = plain_words(many, most)
            for _ in range(30):
                group = random_group(chance, many, 4, 5)
                rows = group.picture()
                counts = [0] * (most + 1)
                for word in words:
                    counts[len(word)] += slow_member(rows, word)
                self.assertEqual([how_many_members(group, signs) for signs in range(most + 1)], counts)

    def test_many_signs(self):
        chance = chance_of(71)
        self.assertEqual(how_many_members(Group(2, ["a", "b"]), 300), 4 * 3 ** 299)
        self.assertEqual(how_many_members(Group(6, list("abcdef")), 300), 12 * 11 ** 299)
        self.assertEqual(how_many_members(Group(1, ["a" * 100]), 300), 2)
        self.assertEqual(how_many_members(Group(1, ["a" * 101]), 300), 0)
        self.assertEqual(how_many_members(Group(3, []), 300), 0)
        self.assertEqual(how_many_members(Group(3, []), 0), 1)
        group = group_of(6, full_picture(chance, 6, 300))
        self.assertGreater(check_quick(self, 5, how_many_members, group, 300), 11 ** 290)

    def test_wrong(self):
        check_wrong(self, how_many_members, [Group(1, ["aa"]), 1],
                    [(0, InvalidGroup, WRONG_GROUP), (1, InvalidNumber, WRONG_COUNT)])


class RuleTest(unittest.TestCase):
    def check_rule(self, group):
        rule = check_owned(self, members_rule, group)
        firsts, steps = rule
        self.assertIs(type(rule), tuple)
        self.assertEqual(len(firsts), len(steps))
        self.assertTrue(all(type(item) is int for item in firsts + steps))
        self.assertLessEqual(len(steps), 2 * lane_total(group) + 1)
        size = 2 * len(steps) + 140
        numbers = [how_many_members(group, signs) for signs in range(size)]
        self.assertEqual(going_on(rule, size), numbers)
        # A rule with fewer items would make each row of this table a sum of fewer ones.
        table = [numbers[at:at + len(steps)] for at in range(len(steps))]
        self.assertEqual(rank_of(table), len(steps))

    def test_small_ranks(self):
        self.assertEqual(members_rule(Group(1, [])), ([1], [0]))
        self.assertEqual(members_rule(Group(6, ["", "aA"])), ([1], [0]))
        self.assertEqual(members_rule(Group(1, ["a"])), ([1, 2], [1, 0]))
        self.assertEqual(members_rule(Group(2, ["abA"])), ([1, 0, 0, 2], [1, 0, 0, 0]))
        self.assertEqual(members_rule(Group(2, ["a", "b"])), ([1, 4], [3, 0]))
        for words in (["a" * 30], ["ab"], ["abABa"], ["a" * 14 + "bb" + "A" * 14], ["b" * 15 + "a" + "B" * 15]):
            self.check_rule(Group(2, words))

    def test_rules(self):
        chance = chance_of(72)
        for many in (1, 2, 3, 6):
            for _ in range(12):
                group = random_group(chance, many, 3, 8)
                if lane_total(group) <= 30:
                    self.check_rule(group)

    def test_thirty_lanes(self):
        chance = chance_of(73)
        for group in (Group(1, ["a" * 30]), Group(2, ["a" * 15, "b" * 15]), Group(2, ["a" * 28 + "b" + "A" * 28, "b"]),
                      Group(6, ["a" * 10, "b" * 10, "c" * 7, "d", "e", "f"]), Group(2, ["a" * 29 + "b" + "A" * 29]),
                      group_of(2, full_picture(chance, 2, 15)), group_of(6, full_picture(chance, 6, 5))):
            self.assertEqual(lane_total(group), 30)
            check_quick(self, 5, self.check_rule, group)

    def test_more_lanes(self):
        chance = chance_of(74)
        for group, lanes in ((Group(1, ["a" * 31]), 31), (group_of(2, full_picture(chance, 2, 16)), 32),
                             (Group(2, ["a" * 30 + "b" + "A" * 30]), 31), (Group(2, ["a" * 15, "b" * 16]), 31),
                             (group_of(6, full_picture(chance, 6, 300)), 1800)):
            self.assertEqual(lane_total(group), lanes)
            error = told(members_rule, group)
            self.assertEqual((type(error), error.value), (TooMany, lanes))

    def test_wrong(self):
        for value in WRONG_GROUP:
            check_error(self, members_rule, [value], InvalidGroup, value)


if __name__ == "__main__":
    unittest.main()
