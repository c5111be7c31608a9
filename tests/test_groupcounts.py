"""Tests of promises 25 and 26."""

import itertools
import unittest

from signlanes.errors import InvalidGroup, InvalidNumber
from signlanes.groupcounts import core_index, group_number, group_numbered, how_many_groups, how_many_kinds
from signlanes.groups import Group, belongs, group_of, is_picture
from tests.helpers import (WRONG_COUNT, WRONG_GROUP, WRONG_MANY, chance_of, check_error, check_quick, check_wrong,
                           full_picture, plain_words, told)

WRONG_INDEX = WRONG_COUNT + [0, 31, 10 ** 29]
GROUPS = {1: [1] * 10, 2: [1, 3, 13, 71, 461, 3447, 29093, 273343], 3: [1, 7, 97, 2143, 68641]}
KINDS = {1: [1] * 10, 2: [1, 3, 7, 26, 97, 624, 4163, 34470], 3: [1, 7, 41, 604, 13753]}


def in_order(rows, start):
    """The picture of the spots of full rows, numbered from a start on; None if it does not reach all."""
    order = [start]
    for spot in order:
        order += [end for at, end in enumerate(rows[spot]) if end not in order and end not in rows[spot][:at]]
    if len(order) < len(rows):
        return None
    return [[order.index(end) for end in rows[spot]] for spot in order]


def all_pictures(many, index):
    """All pictures of groups of an index, in order, by trying all ways to send spots to spots."""
    found = set()
    for ways in itertools.product(itertools.permutations(range(index)), repeat=many):
        rows = [[end for way in ways for end in (way[spot], way.index(spot))] for spot in range(index)]
        picture = in_order(rows, 0)
        if picture is not None:
            found.add(tuple(map(tuple, picture)))
    return [list(map(list, picture)) for picture in sorted(found)]


class ExampleTest(unittest.TestCase):
    def test_examples(self):
        half, third = Group(2, ["aa", "b", "abA"]), Group(2, ["ab", "aa", "baB", "bbA"])
        self.assertEqual([[how_many_groups(2, number) for number in range(1, 5)],
                          [how_many_kinds(2, number) for number in range(1, 5)], group_numbered(2, 2, 1) == half,
                          group_number(half)], [[1, 3, 13, 71], [1, 3, 7, 26], True, 1])
        self.assertEqual([core_index(third), core_index(half)], [6, 2])

    def test_names_of_arguments(self):
        self.assertEqual(how_many_groups(many=2, index=2), 3)
        self.assertEqual(group_numbered(many=2, index=1, number=0), Group(2, ["a", "b"]))
        self.assertEqual(group_number(group=Group(2, ["a", "b"])), 0)
        self.assertEqual(how_many_kinds(many=2, index=2), 3)
        self.assertEqual(core_index(group=Group(2, ["a", "b"])), 1)


class CountTest(unittest.TestCase):
    def test_against_slow(self):
        for many, index in ((1, 1), (1, 2), (1, 5), (2, 1), (2, 2), (2, 3), (2, 4), (3, 2), (3, 3), (4, 2), (5, 2),
                            (6, 1), (6, 2)):
            pictures = all_pictures(many, index)
            self.assertEqual(how_many_groups(many, index), len(pictures))
            found = [group_numbered(many, index, number).picture() for number in range(len(pictures))]
            self.assertEqual(found, pictures)
            self.assertEqual([group_number(group_of(many, rows)) for rows in pictures], list(range(len(pictures))))
            kinds = {min(tuple(map(tuple, in_order(rows, spot))) for spot in range(index)) for rows in pictures}
            self.assertEqual(how_many_kinds(many, index), len(kinds))

    def test_known_numbers(self):
        for many in GROUPS:
            indices = range(1, len(GROUPS[many]) + 1)
            self.assertEqual([how_many_groups(many, index) for index in indices], GROUPS[many])
            self.assertEqual([how_many_kinds(many, index) for index in indices], KINDS[many])

    def test_number_of_groups_by_those_of_lesser_index(self):
        for many in range(1, 7):
            counts, orders = [0], [1]
            for index in range(1, 31):
                orders.append(orders[-1] * index)
                joined = index * orders[index] ** (many - 1)
                joined -= sum(orders[index - less] ** (many - 1) * counts[less] for less in range(1, index))
                counts.append(joined)
                self.assertEqual(how_many_groups(many, index), joined)

    def test_number_of_kinds_up_to_thirty(self):
        for many in range(1, 7):
            for index in range(1, 31):
                kinds, groups = how_many_kinds(many, index), how_many_groups(many, index)
                self.assertLessEqual(-(-groups // index), kinds)
                self.assertLessEqual(kinds, groups)
        # Of a prime index, kinds have as many groups as the index, or one, which is normal.
        for many in range(1, 7):
            for index in (2, 3, 5, 7, 11, 13, 17, 19, 23, 29):
                normal = (index ** many - 1) // (index - 1)
                self.assertEqual(how_many_kinds(many, index),
                                 (how_many_groups(many, index) - normal) // index + normal)

    def test_great_indices(self):
        chance = chance_of(90)
        for many, index in ((1, 30), (2, 30), (3, 29), (6, 30), (2, 9), (4, 17)):
            count = how_many_groups(many, index)
            numbers = sorted({0, count - 1, count // 2} | {chance.randrange(count) for _ in range(8)})
            groups = [check_quick(self, 3, group_numbered, many, index, number) for number in numbers]
            self.assertTrue(all(is_picture(many, group.picture()) for group in groups))
            self.assertTrue(all(len(group.picture()) == index for group in groups))
            self.assertEqual(sorted(group.picture() for group in groups), [group.picture() for group in groups])
            self.assertEqual([check_quick(self, 3, group_number, group) for group in groups], numbers)
            for _ in range(5):
                group = group_of(many, full_picture(chance, many, index))
                self.assertEqual(group_numbered(many, index, group_number(group)), group)
            for number in (count, count + 1, count * 10):
                check_error(self, group_numbered, [many, index, number], InvalidNumber, number)

    def test_neighbours(self):
        for many, index in ((2, 5), (3, 4)):
            pictures = [group_numbered(many, index, number).picture() for number in range(200, 330)]
            self.assertEqual(sorted(pictures), pictures)
            self.assertEqual(len(set(map(str, pictures))), 130)

    def test_groups_of_other_indices(self):
        chance = chance_of(91)
        for group in (Group(2, ["a"]), Group(1, []), Group(2, ["aa", "ab"]), Group(1, ["a" * 31]),
                      group_of(2, full_picture(chance, 2, 31)), group_of(6, full_picture(chance, 6, 300))):
            check_error(self, group_number, [group], InvalidGroup, group)
        self.assertEqual(group_number(Group(1, ["a" * 30])), 0)

    def test_wrong(self):
        many, index = (0, InvalidNumber, WRONG_MANY), (1, InvalidNumber, WRONG_INDEX)
        for call in (how_many_groups, how_many_kinds):
            check_wrong(self, call, [2, 3], [many, index])
        check_wrong(self, group_numbered, [2, 3, 12], [many, index, (2, InvalidNumber, WRONG_COUNT + [13, 10 ** 29])])
        check_wrong(self, group_number, [Group(2, ["a", "b"])], [(0, InvalidGroup, WRONG_GROUP)])


class CoreIndexTest(unittest.TestCase):
    def test_against_slow(self):
        chance = chance_of(92)
        for many in (1, 2, 3):
            for _ in range(25):
                group = group_of(many, full_picture(chance, many, chance.randint(1, 5)))
                ways, rows = set(), group.picture()
                fresh = {tuple(range(len(rows)))}
                while fresh:
                    ways |= fresh
                    fresh = {tuple(row[sign] for row in (rows[spot] for spot in way)) for way in fresh
                             for sign in range(2 * many)} - ways
                self.assertEqual(core_index(group), len(ways))

    def test_known(self):
        turn, change = "a", "b"
        self.assertEqual(core_index(Group(1, ["a" * 7])), 7)
        for size, order in ((2, 2), (3, 6), (4, 24), (5, 120), (6, 720), (7, 5040)):
            # One letter leads around all spots, the other one exchanges two of them.
            rows = [[(spot + 1) % size, (spot - 1) % size] + [1 - spot if spot < 2 else spot] * 2
                    for spot in range(size)]
            group = group_of(2, in_order(rows, 0))
            self.assertEqual(check_quick(self, 3, core_index, group), order)
            self.assertFalse(belongs(group, turn) and belongs(group, change))

    def test_normal_groups_are_their_own_core(self):
        words = plain_words(2, 3)
        for index in (1, 2, 3, 4):
            for number in range(how_many_groups(2, index)):
                group = group_numbered(2, index, number)
                pictures = {str(in_order(group.picture(), spot)) for spot in range(index)}
                self.assertIs(core_index(group) == index, len(pictures) == 1)
                if len(pictures) == 1:
                    self.assertTrue(all(belongs(group, one + two + one.swapcase()[::-1]) is belongs(group, two)
                                        for one in words[:9] for two in words))

    def test_wrong(self):
        chance = chance_of(93)
        wrong = WRONG_GROUP + [Group(2, ["a"]), Group(1, []), Group(1, ["a" * 8]), Group(2, ["aa", "ab"]),
                               group_of(2, full_picture(chance, 2, 8)), group_of(6, full_picture(chance, 6, 300))]
        for value in wrong:
            check_error(self, core_index, [value], InvalidGroup, value)
        self.assertIsNone(told(core_index, group_of(6, full_picture(chance, 6, 7))))


if __name__ == "__main__":
    unittest.main()
