"""Tests of promises 35 to 37."""

import unittest

from signlanes.classes import first_of_class
from signlanes.errors import InvalidGroup, Unlike
from signlanes.groups import Group, belongs, group_of, is_picture
from signlanes.leading import core, greatest_around, is_normal, normalizer, tower, words_leading
from signlanes.meets import index_in, inside, led, meet
from signlanes.pictures import numbered_rows
from tests.helpers import (UNLIKE_GROUPS, WRONG_GROUP, chance_of, check_error, check_owned, check_quick, check_wrong,
                           full_picture, part_of_finite_index, place, plain_words, random_group, random_plain)

NO_RANK = [Group(2, []), Group(2, ["aA", ""])]


def slow_core(rows):
    """The spots of the core, by taking away one spot after the other."""
    left = set(range(len(rows)))
    while True:
        thin = [spot for spot in left if sum(end in left for end in rows[spot] if end is not None) < 2]
        if not thin:
            return sorted(left)
        left.discard(thin[0])


def ranked_group(chance, many, most_words, most_signs):
    """A group with a rank of at least 1."""
    while True:
        group = random_group(chance, many, most_words, most_signs)
        if group.rank() > 0:
            return group


class ExampleTest(unittest.TestCase):
    def test_examples(self):
        two, one = Group(2, ["aa", "b", "abA"]), Group(2, ["ab"])
        self.assertEqual([core(Group(2, ["abA"])), core(Group(2, [])), words_leading(one, Group(2, ["ba"])),
                          words_leading(two, two), words_leading(one, two)], [[1], [], ["a"], ["", "a"], []])
        self.assertEqual([normalizer(Group(2, ["aBBA"])) == Group(2, ["aBA"]), is_normal(two), is_normal(one),
                          len(tower(Group(2, ["aaaa"]))), tower(one) == [one]], [True, True, False, 2, True])
        self.assertEqual([greatest_around(Group(2, ["abbA"])) == Group(2, ["abA"]),
                          greatest_around(Group(2, ["aa", "ab", "bbb", "baB"])) == Group(2, ["a", "b"]),
                          greatest_around(one) == one], [True, True, True])

    def test_names_of_arguments(self):
        one = Group(2, ["ab"])
        self.assertEqual(core(group=one), [0, 1])
        self.assertEqual(words_leading(one=one, other=one), [""])
        for call in (normalizer, greatest_around):
            self.assertEqual(call(group=one), one)
        self.assertIs(is_normal(group=one), False)
        self.assertEqual(tower(group=one), [one])


class CoreTest(unittest.TestCase):
    def test_against_slow(self):
        chance = chance_of(140)
        for many in (1, 2, 3, 6):
            for _ in range(60):
                group = led(random_group(chance, many, 3, 5), random_plain(chance, many, chance.randint(0, 6)))
                self.assertEqual(check_owned(self, core, group), slow_core(group.picture()))
                word = random_plain(chance, many, chance.randint(0, 6))
                self.assertEqual(len(core(led(group, word))), len(core(group)))

    def test_hairs(self):
        for many in (1, 3, 6):
            self.assertEqual(core(Group(many, [])), [])
        self.assertEqual(core(Group(2, ["a"])), [0])
        self.assertEqual(core(Group(2, ["a" * 99 + "bb" + "A" * 99])), [99, 100])
        self.assertEqual(core(Group(2, ["a" * 9 + "bb" + "A" * 9, "a" * 4 + "b" + "A" * 4])), list(range(4, 11)))
        self.assertEqual(core(Group(2, ["a" * 9 + "bb" + "A" * 9, "b"])), list(range(11)))
        chance = chance_of(141)
        self.assertEqual(core(group_of(6, full_picture(chance, 6, 300))), list(range(300)))

    def test_wrong(self):
        check_wrong(self, core, [Group(1, ["a"])], [(0, InvalidGroup, WRONG_GROUP)])


class WordsLeadingTest(unittest.TestCase):
    def check_words(self, one, other, words):
        found = check_owned(self, words_leading, one, other)
        self.assertEqual(sorted(set(found), key=place), found)
        self.assertLessEqual(len(found), len(core(one)))
        for word in found:
            self.assertEqual(first_of_class(one, word), word)
            self.assertEqual(led(one, word), other)
        for word in words:
            self.assertIs(led(one, word) == other, first_of_class(one, word) in found)
        return found

    def test_against_slow(self):
        chance = chance_of(142)
        for many, most in ((1, 8), (2, 4), (3, 3)):
            words = plain_words(many, most)
            for _ in range(40):
                one = ranked_group(chance, many, 3, 4)
                other = chance.choice([one, led(one, random_plain(chance, many, chance.randint(1, 5))),
                                       ranked_group(chance, many, 3, 4)])
                self.check_words(one, other, words)

    def test_powers_of_one_word(self):
        words = plain_words(2, 4)
        for ring in ("a", "ab", "aab", "abAB"):
            for times in (1, 2, 3, 6):
                group = Group(2, [ring * times])
                self.assertEqual(len(self.check_words(group, group, words)), times)
                self.assertEqual(len(self.check_words(group, led(group, "bA"), words)), times)
                self.assertEqual(len(self.check_words(led(group, "ba"), group, words)), times)
        group = Group(1, ["a" * 200])
        self.assertEqual(len(check_quick(self, 5, words_leading, group, group)), 200)
        self.assertEqual(words_leading(Group(1, ["aa"]), Group(1, ["aaa"])), [])

    def test_great_pictures(self):
        chance = chance_of(143)
        one = group_of(6, full_picture(chance, 6, 300))
        other = led(one, random_plain(chance, 6, 30))
        found = check_quick(self, 5, words_leading, one, other)
        self.assertTrue(found)
        self.assertTrue(all(led(one, word) == other for word in found))
        hairy = Group(2, ["a" * 98 + "bab" + "A" * 98])
        self.assertEqual(words_leading(hairy, Group(2, ["bab"])), ["a" * 98])
        self.assertEqual(words_leading(Group(2, ["bab"]), hairy), ["A" * 98])

    def test_wrong(self):
        check_wrong(self, words_leading, [Group(2, ["aa"]), Group(2, ["a"])],
                    [(0, InvalidGroup, WRONG_GROUP + NO_RANK), (1, InvalidGroup, WRONG_GROUP + NO_RANK + [Group(3, [])]),
                     (1, Unlike, [group for group in UNLIKE_GROUPS if group.rank()])])


class NormalizerTest(unittest.TestCase):
    def test_against_slow(self):
        chance = chance_of(144)
        for many, most in ((1, 8), (2, 5), (3, 3)):
            words = plain_words(many, most)
            for _ in range(40):
                group = ranked_group(chance, many, 3, 4)
                found = normalizer(group)
                self.assertTrue(is_picture(many, found.picture()))
                for word in words:
                    self.assertIs(belongs(found, word), led(group, word) == group)
                times = len(words_leading(group, group))
                self.assertEqual((found.rank() - 1) * times, group.rank() - 1)
                self.assertEqual(index_in(group, found), times)
                every = all(belongs(found, letter) for letter in "abc"[:many])
                self.assertIs(is_normal(group), every)

    def test_tower(self):
        chance = chance_of(145)
        for _ in range(60):
            group = ranked_group(chance, chance.randint(1, 2), 3, 5)
            found = check_owned(self, tower, group)
            self.assertEqual(found[0], group)
            self.assertEqual([normalizer(step) for step in found], found[1:] + found[-1:])
            for one, other in zip(found, found[1:]):
                self.assertNotEqual(one, other)
                self.assertTrue(inside(one, other))

    def test_several_groups(self):
        # One letter turns a square, the other one reflects it in the line through corner 0. What leaves this
        # corner stands in what leaves it or leads it to the other corner of the line.
        turn, reflect = [1, 2, 3, 0], [0, 3, 2, 1]
        rows = [[turn[spot], turn.index(spot), reflect[spot], reflect.index(spot)] for spot in range(4)]
        found = tower(group_of(2, numbered_rows(rows, 0)))
        self.assertEqual([len(group.picture()) for group in found], [4, 2, 1])
        self.assertTrue(belongs(found[1], "b") and belongs(found[1], "aa") and not belongs(found[1], "a"))

    def test_powers_of_one_word(self):
        for times in (1, 2, 12, 90):
            group = Group(2, ["b" * 9 + "ab" * times + "B" * 9])
            self.assertEqual(normalizer(group), Group(2, ["b" * 9 + "ab" + "B" * 9]))
            self.assertEqual(len(tower(group)), 1 if times == 1 else 2)
            self.assertIs(is_normal(group), False)
        self.assertIs(is_normal(Group(1, ["a" * 7])), True)

    def test_great_pictures(self):
        chance = chance_of(146)
        group = group_of(6, full_picture(chance, 6, 300))
        check_quick(self, 5, tower, group)
        self.assertIs(check_quick(self, 5, is_normal, group), False)
        self.assertEqual([len(step.picture()) for step in check_quick(self, 5, tower, Group(1, ["a" * 200]))], [200, 1])

    def test_wrong(self):
        for call in (normalizer, is_normal, tower, greatest_around):
            for value in WRONG_GROUP + NO_RANK + [Group(1, []), Group(6, [])]:
                check_error(self, call, [value], InvalidGroup, value)


class GreatestAroundTest(unittest.TestCase):
    def test_against_slow(self):
        chance = chance_of(147)
        for many, most in ((1, 5), (2, 4), (3, 2)):
            words = plain_words(many, most)
            for _ in range(40):
                group = ranked_group(chance, many, 3, 4)
                found = greatest_around(group)
                self.assertTrue(is_picture(many, found.picture()))
                self.assertIsNotNone(index_in(group, found))
                self.assertEqual(normalizer(found), found)
                self.assertTrue(all(inside(step, found) for step in tower(group)))
                for word in words:
                    self.assertIs(belongs(found, word), self.have_much_in_common(led(group, word), group))

    def have_much_in_common(self, one, other):
        both = meet(one, other)
        return index_in(both, one) is not None and index_in(both, other) is not None

    def test_led_to_groups_with_much_in_common(self):
        chance = chance_of(148)
        words = plain_words(2, 3)
        for _ in range(40):
            one = ranked_group(chance, 2, 2, 4)
            other = chance.choice([ranked_group(chance, 2, 2, 4), led(one, random_plain(chance, 2, 3)),
                                   led(greatest_around(one), "ab")])
            found = words_leading(greatest_around(one), greatest_around(other))
            self.assertLessEqual(len(found), 1)
            for word in words:
                in_class = found == [first_of_class(greatest_around(one), word)]
                self.assertIs(in_class, self.have_much_in_common(led(one, word), other))

    def test_of_groups_of_finite_index_in_others(self):
        chance = chance_of(150)
        for _ in range(60):
            whole = greatest_around(ranked_group(chance, 2, 3, 6))
            self.assertEqual(greatest_around(whole), whole)
            if whole.rank() <= 6:
                for index in (1, 2, 5):
                    self.assertEqual(greatest_around(part_of_finite_index(chance, whole, index)), whole)

    def test_spots_with_the_same_words(self):
        self.assertEqual(greatest_around(Group(2, ["ab" * 9])), Group(2, ["ab"]))
        self.assertEqual(greatest_around(Group(2, ["b" + "aab" * 7 + "B"])), Group(2, ["baabB"]))
        self.assertEqual(greatest_around(Group(2, ["a" * 5 + "b" + "A" * 5])), Group(2, ["a" * 5 + "b" + "A" * 5]))
        self.assertEqual(greatest_around(Group(1, ["a" * 200])), Group(1, ["a"]))
        chance = chance_of(149)
        group = group_of(3, full_picture(chance, 3, 300))
        self.assertEqual(check_quick(self, 5, greatest_around, group), Group(3, ["a", "b", "c"]))


if __name__ == "__main__":
    unittest.main()
