"""Tests of promises 20 and 21."""

import unittest

from signlanes.classes import (class_of, first_of_class, how_many_classes, how_many_leaders, leader_number,
                               leader_numbered)
from signlanes.errors import InvalidGroup, InvalidNumber, InvalidWord, TooLong
from signlanes.groups import Group, belongs, group_of
from tests.helpers import (WRONG_COUNT, WRONG_GROUP, WRONG_WORD, back, chance_of, check_quick, check_wrong,
                           full_picture, place, plain_words, random_list, random_word, say, told)


class ExampleTest(unittest.TestCase):
    def test_examples(self):
        half, ring = Group(2, ["aa", "b", "abA"]), Group(2, ["ab"])
        self.assertEqual([how_many_classes(half), how_many_classes(ring), class_of(half, "ab"), class_of(ring, "aab"),
                          class_of(ring, "abb"), first_of_class(half, "ab"), first_of_class(ring, "Bab")],
                         [2, None, (1, ""), (1, "ab"), (0, "b"), "a", "aab"])
        self.assertEqual([[how_many_leaders(ring, signs) for signs in range(3)], leader_numbered(ring, 5),
                          leader_number(ring, "abb"), how_many_leaders(half, 2), leader_numbered(half, 1)],
                         [[1, 3, 8], "aB", 3, 0, "a"])

    def test_names_of_arguments(self):
        group = Group(1, ["aa"])
        self.assertEqual(class_of(group=group, word="aaa"), (1, ""))
        self.assertEqual(first_of_class(group=group, word="aaa"), "a")
        self.assertEqual(how_many_classes(group=group), 2)
        self.assertEqual(how_many_leaders(group=group, signs=1), 1)
        self.assertEqual(leader_numbered(group=group, number=1), "a")
        self.assertEqual(leader_number(group=group, word="aaa"), 1)


class ClassTest(unittest.TestCase):
    def test_same_class(self):
        chance = chance_of(60)
        for _ in range(300):
            many = chance.randint(1, 3)
            group = Group(many, random_list(chance, many, 4, 5))
            one, other = [random_word(chance, many, chance.randint(0, 6)) for _ in range(2)]
            same = belongs(group, one + back(other))
            self.assertIs(class_of(group, one) == class_of(group, other), same)
            self.assertIs(first_of_class(group, one) == first_of_class(group, other), same)
            self.assertIs(leader_number(group, one) == leader_number(group, other), same)

    def test_leaders_against_slow(self):
        chance = chance_of(61)
        for many, most in ((1, 8), (2, 4), (3, 3)):
            words = plain_words(many, most)
            for _ in range(40):
                group = Group(many, random_list(chance, many, 4, 5))
                leaders, leader_of = [], {}
                for word in words:
                    key = class_of(group, word)
                    if key not in leader_of:
                        leader_of[key] = word
                        leaders.append(word)
                for word in words[::5]:
                    self.assertEqual(first_of_class(group, word), leader_of[class_of(group, word)])
                    self.assertEqual(leader_number(group, word), leaders.index(leader_of[class_of(group, word)]))
                self.assertEqual([leader_numbered(group, at) for at in range(len(leaders))], leaders)
                for signs in range(most + 1):
                    self.assertEqual(how_many_leaders(group, signs), len([1 for word in leaders if len(word) == signs]))

    def test_class_of_reads_as_far_as_it_can(self):
        group = Group(2, ["abA"])
        self.assertEqual(class_of(group, ""), (0, ""))
        self.assertEqual(class_of(group, "b"), (0, "b"))
        self.assertEqual(class_of(group, "abbaA"), (1, ""))
        self.assertEqual(class_of(group, "aabb"), (1, "abb"))
        self.assertEqual(class_of(group, "abbaab"), (1, "aab"))
        self.assertEqual(class_of(Group(2, []), "aAbab"), (0, "bab"))
        self.assertEqual(first_of_class(group, "abbbab"), "aab")

    def test_how_many_classes(self):
        chance = chance_of(62)
        for many in range(1, 7):
            self.assertIsNone(how_many_classes(Group(many, [])))
            self.assertEqual(how_many_classes(Group(many, list("abcdef"[:many]))), 1)
            for spots in (2, 5, 300):
                self.assertEqual(how_many_classes(group_of(many, full_picture(chance, many, spots))), spots)
        self.assertEqual(how_many_classes(Group(1, ["a" * 200])), 200)
        self.assertIsNone(how_many_classes(Group(2, ["a"])))
        self.assertIsNone(how_many_classes(Group(2, ["aa", "ab"])))

    def test_no_letters_used(self):
        group = Group(2, [])
        words = plain_words(2, 3)
        self.assertEqual([leader_numbered(group, at) for at in range(len(words))], words)
        self.assertEqual([leader_number(group, word) for word in words], list(range(len(words))))
        self.assertEqual(first_of_class(group, "abBa"), "aa")

    def test_beginnings_of_leaders_are_leaders(self):
        group = Group(2, ["aab", "bba"])
        for number in range(60):
            word = leader_numbered(group, number)
            self.assertEqual(first_of_class(group, word), word)
            self.assertEqual(first_of_class(group, word[:-1]), word[:-1])


class NumberTest(unittest.TestCase):
    def test_great_numbers(self):
        chance = chance_of(63)
        for many, words in ((2, ["ab"]), (2, []), (6, ["abc", "dde"]), (3, ["ab", "ca", "bbc"]), (1, [])):
            group = Group(many, words)
            for figures in (1, 2) if many == 1 else (1, 5, 20, 30, 45):
                number = chance.randrange(10 ** figures)
                word = leader_numbered(group, number)
                self.assertEqual(leader_number(group, word), number)
                self.assertEqual(first_of_class(group, word), word)
                following = leader_numbered(group, number + 1)
                self.assertGreater(place(following), place(word))
                self.assertEqual(leader_number(group, following), number + 1)

    def test_last_leaders_of_300_signs(self):
        for many, words in ((1, []), (2, []), (2, ["ab"]), (6, ["abc", "f"]), (2, ["a" * 150])):
            group = Group(many, words)
            count = sum(how_many_leaders(group, signs) for signs in range(301))
            last = check_quick(self, 5, leader_numbered, group, count - 1)
            self.assertEqual(len(last), 300)
            self.assertEqual(leader_number(group, last), count - 1)
            for number in (count, count + 5, 10 ** 600):
                error = told(leader_numbered, group, number)
                self.assertIs(type(error), TooLong)
                self.assertEqual(error.value, 301)

    def test_how_many_leaders(self):
        self.assertEqual(how_many_leaders(Group(2, []), 300), 4 * 3 ** 299)
        self.assertEqual(how_many_leaders(Group(2, ["a"]), 300), 2 * 3 ** 299)
        self.assertEqual(how_many_leaders(Group(2, ["a", "b"]), 300), 0)
        self.assertEqual(how_many_leaders(Group(2, ["a", "b"]), 0), 1)
        self.assertEqual(how_many_leaders(Group(1, []), 300), 2)
        self.assertEqual(how_many_leaders(Group(1, ["a" * 11]), 5), 2)
        self.assertEqual(how_many_leaders(Group(1, ["a" * 10]), 5), 1)

    def test_finite_index(self):
        chance = chance_of(64)
        for many, spots in ((1, 7), (2, 12), (3, 40), (6, 300)):
            group = group_of(many, full_picture(chance, many, spots))
            leaders = [leader_numbered(group, number) for number in range(spots)]
            self.assertEqual(sorted(leaders, key=place), leaders)
            self.assertEqual([leader_number(group, word) for word in leaders], list(range(spots)))
            self.assertEqual([class_of(group, word) for word in leaders], [(spot, "") for spot in range(spots)])
            self.assertEqual(sum(how_many_leaders(group, signs) for signs in range(301)), spots)
            for number in (spots, spots + 1, 10 ** 29):
                error = told(leader_numbered, group, number)
                self.assertIs(type(error), InvalidNumber)
                self.assertEqual(error.value, number)

    def test_long_words(self):
        group = Group(6, ["ab" * 100, "c" * 90 + "a"])
        number = check_quick(self, 5, leader_number, group, "f" * 1000)
        self.assertGreater(number, 11 ** 900)
        self.assertEqual(leader_number(group, "ab" * 500), leader_number(group, ""))
        word = check_quick(self, 5, first_of_class, group, "ab" * 499 + "af")
        self.assertEqual(word, first_of_class(group, word))
        self.assertEqual(leader_numbered(group, leader_number(group, word)), word)
        self.assertEqual(say(word), word)


class WrongTest(unittest.TestCase):
    def test_wrong(self):
        group, right = (0, InvalidGroup, WRONG_GROUP), Group(2, ["aa", "ab"])
        half = Group(2, ["aa", "b", "abA"])
        word = (1, InvalidWord, WRONG_WORD)
        number = (1, InvalidNumber, WRONG_COUNT)
        for call in (class_of, first_of_class, leader_number):
            check_wrong(self, call, [right, "a"], [group, word])
        check_wrong(self, how_many_classes, [right], [group])
        check_wrong(self, how_many_leaders, [right, 1], [group, number])
        check_wrong(self, leader_numbered, [right, 1], [group, number])
        check_wrong(self, leader_numbered, [half, 1], [group, (1, InvalidNumber, WRONG_COUNT + [2, 3])])


if __name__ == "__main__":
    unittest.main()
