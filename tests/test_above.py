"""Tests of promises 27 and 28."""

import unittest

from signlanes.above import double_classes, fringe, is_greatest
from signlanes.bases import basis
from signlanes.classes import class_of, how_many_classes
from signlanes.errors import InvalidGroup, TooMany, Unlike
from signlanes.groupcounts import group_numbered, how_many_groups
from signlanes.groups import Group, belongs, group_of, is_picture
from signlanes.meets import first_of_double, inside
from tests.helpers import (SIGNS, UNLIKE_GROUPS, WRONG_GROUP, back, chance_of, check_error, check_owned, check_quick,
                           check_wrong, full_picture, plain_words, random_group, random_list, slow_fold, slow_rows, told)


def partings(size):
    """All ways to part numbers into sets."""
    if size == 0:
        yield []
        return
    for sets in partings(size - 1):
        for at in range(len(sets)):
            yield sets[:at] + [sets[at] + [size - 1]] + sets[at + 1:]
        yield sets + [[size - 1]]


def slow_fringe(group):
    """The pictures of the fringe, in its order, by plain folding of sets of lanes."""
    many, found = group.many(), []
    for sets in partings(len(group.picture())):
        name = {spot: min(part) for part in sets for spot in part}
        lanes = {(name[spot], SIGNS[sign], name[row[sign]]) for spot, row in enumerate(group.picture())
                 for sign in range(0, 2 * many, 2) if row[sign] is not None}
        pair = slow_fold(lanes)
        while pair is not None:
            low, high = min(pair), max(pair)
            lanes = {(low if one == high else one, sign, low if two == high else two) for one, sign, two in lanes}
            pair = slow_fold(lanes)
        rows = slow_rows(many, lanes)
        if rows not in found:
            found.append(rows)
    return sorted(found, key=lambda rows: (len(rows), [[-1 if end is None else end for end in row] for row in rows]))


class ExampleTest(unittest.TestCase):
    def test_examples(self):
        half, ring, every = Group(2, ["aa", "b", "abA"]), Group(2, ["ab"]), Group(2, ["a", "b"])
        self.assertEqual([fringe(ring) == [every, ring], len(fringe(Group(1, ["aaaa"]))), is_greatest(half),
                          is_greatest(every), double_classes(half, ring), double_classes(half, Group(2, ["b"]))],
                         [True, 3, True, False, [("", 2)], [("", 1), ("a", 1)]])

    def test_names_of_arguments(self):
        half, ring = Group(2, ["aa", "b", "abA"]), Group(2, ["ab"])
        self.assertEqual(len(fringe(group=ring)), 2)
        self.assertIs(is_greatest(group=half), True)
        self.assertEqual(double_classes(one=half, other=ring), [("", 2)])


class FringeTest(unittest.TestCase):
    def test_against_slow(self):
        chance = chance_of(100)
        for many in (1, 2, 3, 6):
            for _ in range(25):
                group = random_group(chance, many, 3, 4)
                if len(group.picture()) > 6:
                    continue
                found = fringe(group)
                self.assertEqual([above.picture() for above in found], slow_fringe(group))
                for above in found:
                    self.assertTrue(is_picture(many, above.picture()))
                    self.assertIs(inside(group, above), True)

    def test_eight_spots(self):
        chance = chance_of(101)
        group = Group(6, ["abcdefab"])
        self.assertEqual(len(group.picture()), 8)
        found = check_quick(self, 5, fringe, group)
        self.assertEqual(len({str(above.picture()) for above in found}), len(found))
        self.assertEqual(found[-1], group)
        self.assertEqual(found[0], Group(6, list("abcdef")))
        found = check_quick(self, 5, fringe, group_of(6, full_picture(chance, 6, 8)))
        self.assertEqual([len(above.picture()) for above in (found[0], found[-1])], [1, 8])
        self.assertEqual(fringe(group), fringe(group))

    def test_nine_spots_and_more(self):
        chance = chance_of(102)
        for group in (Group(1, ["a" * 9]), Group(2, ["aaaaabbbb"]), group_of(2, full_picture(chance, 2, 9)),
                      group_of(6, full_picture(chance, 6, 300))):
            for call in (fringe, is_greatest):
                error = told(call, group)
                self.assertEqual((type(error), error.value), (TooMany, len(group.picture())))

    def test_results_belong_to_the_caller(self):
        check_owned(self, fringe, Group(2, ["aabb"]))
        check_owned(self, double_classes, Group(1, ["a" * 6]), Group(1, ["a" * 4]))

    def test_small(self):
        self.assertEqual(fringe(Group(3, [])), [Group(3, [])])
        self.assertEqual(fringe(Group(2, ["a"])), [Group(2, ["a"])])
        self.assertEqual(fringe(Group(1, ["a" * 8])), [Group(1, ["a" * size]) for size in (1, 2, 4, 8)])
        self.assertEqual(fringe(Group(2, ["abA"])), [Group(2, ["a", "b"]), Group(2, ["abA"])])

    def test_all_groups_above_one_of_finite_index(self):
        lesser = [group_numbered(2, index, number) for index in (1, 2, 3) for number in range(how_many_groups(2, index))]
        for number in range(0, how_many_groups(2, 6), 997):
            group = group_numbered(2, 6, number)
            above = [other for other in lesser if all(belongs(other, word) for word in basis(group))] + [group]
            self.assertEqual(fringe(group), sorted(above, key=lambda other: (len(other.picture()), other.picture())))

    def test_is_greatest(self):
        for index in (1, 2, 3, 4):
            for number in range(how_many_groups(2, index)):
                group = group_numbered(2, index, number)
                self.assertIs(is_greatest(group), index > 1 and len(slow_fringe(group)) == 2)
        self.assertIs(is_greatest(Group(2, ["a"])), False)
        self.assertIs(is_greatest(Group(2, ["ab"])), False)
        self.assertIs(is_greatest(Group(1, [])), False)
        self.assertIs(is_greatest(Group(1, ["a" * 7])), True)
        self.assertIs(is_greatest(Group(1, ["a" * 4])), False)

    def test_wrong(self):
        for call in (fringe, is_greatest):
            check_wrong(self, call, [Group(2, ["aa"])], [(0, InvalidGroup, WRONG_GROUP)])


class DoubleClassTest(unittest.TestCase):
    def test_against_slow(self):
        chance = chance_of(103)
        for many in (1, 2, 3):
            words = plain_words(many, 4 if many < 3 else 3)
            for _ in range(60):
                one = group_of(many, full_picture(chance, many, chance.randint(1, 6)))
                other = random_group(chance, many, 2, 4)
                factors = basis(other)
                parts = [{spot} for spot in range(how_many_classes(one))]
                for word in words:
                    for factor in factors:
                        ends = {class_of(one, word)[0], class_of(one, word + factor)[0]}
                        joined = set().union(*[part for part in parts if part & ends])
                        parts = [part for part in parts if not part & ends] + [joined]
                found = double_classes(one, other)
                self.assertEqual(sorted(size for _, size in found), sorted(map(len, parts)))
                for word, size in found:
                    part = next(part for part in parts if class_of(one, word)[0] in part)
                    self.assertEqual(len(part), size)
                    first = next(word for word in words if class_of(one, word)[0] in part)
                    self.assertEqual(word, first)
                    self.assertEqual(first_of_double(one, word, other), word)
                self.assertEqual([word for word, _ in found], [word for word in words if word in dict(found)])

    def test_every_kind_of_second_group(self):
        half = Group(2, ["aa", "b", "abA"])
        self.assertEqual(double_classes(half, Group(2, [])), [("", 1), ("a", 1)])
        self.assertEqual(double_classes(half, half), [("", 1), ("a", 1)])
        self.assertEqual(double_classes(half, Group(2, ["a", "b"])), [("", 2)])
        self.assertEqual(double_classes(half, Group(2, ["abbA"])), [("", 1), ("a", 1)])
        self.assertEqual(double_classes(half, Group(2, ["bab"])), [("", 2)])
        self.assertEqual(double_classes(Group(1, ["a" * 6]), Group(1, ["a" * 4])), [("", 3), ("a", 3)])
        self.assertEqual(double_classes(Group(1, ["a" * 6]), Group(1, [])),
                         [(word, 1) for word in ("", "a", "A", "aa", "AA", "aaa")])

    def test_great_pictures(self):
        chance = chance_of(104)
        one, other = [group_of(6, full_picture(chance, 6, 300)) for _ in range(2)]
        found = check_quick(self, 10, double_classes, one, other)
        self.assertEqual(sum(size for _, size in found), 300)
        one = group_of(2, full_picture(chance, 2, 300))
        found = check_quick(self, 10, double_classes, one, Group(2, ["ab" * 20 + "b" + back("ab" * 20)]))
        self.assertEqual(sum(size for _, size in found), 300)

    def test_wrong(self):
        half = Group(2, ["aa", "b", "abA"])
        endless = [Group(2, ["ab"]), Group(2, []), Group(1, []), Group(6, ["a"])]
        check_wrong(self, double_classes, [half, Group(2, ["ab"])],
                    [(0, InvalidGroup, WRONG_GROUP + endless), (1, InvalidGroup, WRONG_GROUP),
                     (1, Unlike, UNLIKE_GROUPS)])
        check_error(self, double_classes, [endless[0], Group(1, ["a"])], InvalidGroup, endless[0])
        self.assertEqual(len(double_classes(half, Group(2, random_list(chance_of(105), 2, 2, 3)))[0]), 2)


if __name__ == "__main__":
    unittest.main()
