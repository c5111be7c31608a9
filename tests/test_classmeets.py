"""Tests of promises 33 and 34."""

import unittest

from signlanes.classes import class_of
from signlanes.classmeets import how_many_in_class, in_double, meet_word, word_of_all
from signlanes.errors import InvalidGroup, InvalidList, InvalidNumber, InvalidWord, Unlike
from signlanes.groups import Group, belongs, group_of
from signlanes.meets import first_of_double, led, meet
from signlanes.members import members_from
from tests.helpers import (UNLIKE_GROUPS, WRONG_COUNT, WRONG_GROUP, WRONG_WORD, back, chance_of, check_error,
                           check_quick, check_wrong, full_picture, plain_words, random_group, random_plain, random_word,
                           say)


class ExampleTest(unittest.TestCase):
    def test_examples(self):
        two, one = Group(2, ["aa", "b", "abA"]), Group(2, ["ab"])
        self.assertEqual([how_many_in_class(two, "a", 2), how_many_in_class(one, "Ba", 2),
                          how_many_in_class(one, "a", 1)], [8, 2, 2])
        self.assertEqual([meet_word(one, "a", two, ""), meet_word(one, "a", one, "b"),
                          word_of_all([(one, ""), (two, "a")]), in_double(one, "a", one, "aab"),
                          in_double(one, "a", one, "b")], ["B", None, "ab", True, False])

    def test_names_of_arguments(self):
        one = Group(2, ["ab"])
        self.assertEqual(how_many_in_class(group=one, word="a", signs=1), 2)
        self.assertEqual(meet_word(one=one, left="a", other=one, right="a"), "a")
        self.assertEqual(word_of_all(classes=[(one, "a")]), "a")
        self.assertIs(in_double(one=one, word="a", other=one, sought="a"), True)


class CountTest(unittest.TestCase):
    def test_against_slow(self):
        chance = chance_of(130)
        for many, most in ((1, 10), (2, 5), (3, 4)):
            words = plain_words(many, most)
            for _ in range(30):
                group = random_group(chance, many, 3, 4)
                ends = {}
                for word in words:
                    ends.setdefault(str(class_of(group, word)), [0] * (most + 1))[len(word)] += 1
                for word in [random_word(chance, many, chance.randint(0, 6)) for _ in range(8)]:
                    slow = ends.get(str(class_of(group, word)), [0] * (most + 1))
                    self.assertEqual([how_many_in_class(group, word, signs) for signs in range(most + 1)], slow)

    def test_many_signs(self):
        chance = chance_of(131)
        every = Group(6, list("abcdef"))
        self.assertEqual(how_many_in_class(every, "abc", 300), 12 * 11 ** 299)
        self.assertEqual(how_many_in_class(Group(2, []), "a" * 300, 300), 1)
        self.assertEqual(how_many_in_class(Group(2, []), "a" * 300, 299), 0)
        self.assertEqual(how_many_in_class(Group(2, ["b"]), "a" * 1000, 300), 0)
        self.assertEqual(how_many_in_class(Group(2, ["b"]), "a" * 290, 300), 2)
        self.assertEqual(how_many_in_class(Group(2, ["b"]), "bBa" * 290, 290), 1)
        group = group_of(6, full_picture(chance, 6, 300))
        words = [random_plain(chance, 6, 20) for _ in range(3)]
        found = [check_quick(self, 5, how_many_in_class, group, word, 300) for word in words]
        self.assertTrue(all(count > 11 ** 290 for count in found))

    def test_wrong(self):
        check_wrong(self, how_many_in_class, [Group(2, ["aa"]), "a", 1],
                    [(0, InvalidGroup, WRONG_GROUP), (1, InvalidWord, WRONG_WORD), (2, InvalidNumber, WRONG_COUNT)])


class MeetWordTest(unittest.TestCase):
    def test_against_slow(self):
        chance = chance_of(132)
        for many, most in ((1, 12), (2, 6), (3, 4)):
            words = plain_words(many, most)
            for _ in range(60):
                one, other = random_group(chance, many, 2, 4), random_group(chance, many, 2, 4)
                left, right = [random_word(chance, many, chance.randint(0, 4)) for _ in range(2)]
                if chance.random() < 0.5:
                    right = self.shared(chance, one, left, other)
                goals = class_of(one, left), class_of(other, right)
                slow = next((word for word in words if (class_of(one, word), class_of(other, word)) == goals), None)
                found = meet_word(one, left, other, right)
                self.assertEqual(word_of_all([(one, left), (other, right)]), found)
                if found is None or len(found) <= most:
                    self.assertEqual(found, slow)
                if found is not None:
                    self.assertEqual(say(found), found)
                    self.assertEqual((class_of(one, found), class_of(other, found)), goals)
                    both = meet(one, other)
                    for word in words[::3]:
                        self.assertIs((class_of(one, word), class_of(other, word)) == goals,
                                      class_of(both, word) == class_of(both, found))

    def shared(self, chance, one, left, other):
        """A word in the class of another one's class by a second group, so that both classes meet."""
        factors = [members_from(group, 0, 30) if group.rank() else [""] for group in (one, other)]
        return say(back(chance.choice(factors[1])) + chance.choice(factors[0]) + left)[:200]

    def test_several_classes(self):
        chance = chance_of(133)
        words = plain_words(2, 6)
        for _ in range(60):
            groups = [random_group(chance, 2, 2, 3) for _ in range(chance.randint(1, 4))]
            whole = random_word(chance, 2, chance.randint(0, 6))
            parts = [say(chance.choice(members_from(group, 0, 9) if group.rank() else [""]) + whole)
                     for group in groups]
            if chance.random() < 0.4:
                parts[-1] = random_word(chance, 2, 3)
            classes = list(zip(groups, parts))
            goals = [class_of(group, word) for group, word in classes]
            found = word_of_all(classes)
            slow = next((word for word in words if [class_of(group, word) for group in groups] == goals), None)
            if found is None or len(found) <= 6:
                self.assertEqual(found, slow)
            else:
                self.assertEqual([class_of(group, found) for group in groups], goals)
            self.assertEqual(word_of_all(classes[::-1] + classes[:1]), found)

    def test_none(self):
        none, ring = Group(2, []), Group(2, ["ab"])
        self.assertIsNone(meet_word(none, "a", none, "b"))
        self.assertIsNone(meet_word(none, "a", ring, "b"))
        self.assertEqual(meet_word(none, "abab", ring, ""), "abab")
        self.assertIsNone(meet_word(Group(1, ["aaaa"]), "a", Group(1, ["aa"]), ""))
        self.assertEqual(meet_word(Group(1, ["aaaa"]), "a", Group(1, ["aaa"]), "A"), "aaaaa")
        self.assertEqual(meet_word(ring, "aaab", ring, "BAaaab"), "aaab")
        self.assertIsNone(meet_word(ring, "aaab", ring, "aaaab"))
        self.assertIsNone(word_of_all([(Group(1, ["aa"]), ""), (Group(1, ["aaa"]), ""), (Group(1, ["aaaa"]), "a")]))

    def test_long_words(self):
        found = check_quick(self, 5, meet_word, Group(1, ["a" * 53]), "a" * 27, Group(1, ["a" * 54]), "")
        self.assertEqual(found, "A" * (53 * 54 - 54 * 27))
        chance = chance_of(134)
        for one, other, size in ((["aab", "bba"], ["ab"], 200), (["a" * 20, "b"], ["aa", "b" * 30], 200)):
            one, other = Group(2, one), Group(2, other)
            word = random_plain(chance, 2, size)
            found = check_quick(self, 5, meet_word, one, word, other, word)
            self.assertTrue(belongs(one, found + back(word)) and belongs(other, found + back(word)))
        # What both have in common has a picture of many more than 300 spots.
        groups = [group_of(2, full_picture(chance, 2, spots)) for spots in (50, 60)]
        words = [random_plain(chance, 2, 200) for _ in groups]
        found = check_quick(self, 5, meet_word, groups[0], words[0], groups[1], words[1])
        self.assertTrue(all(belongs(group, found + back(word)) for group, word in zip(groups, words)))
        groups = [group_of(3, full_picture(chance, 3, spots)) for spots in (2, 3, 4, 5, 5, 5)]
        words = [random_plain(chance, 3, 200) for _ in groups]
        found = check_quick(self, 5, word_of_all, list(zip(groups, words)))
        if found is not None:
            self.assertTrue(all(belongs(group, found + back(word)) for group, word in zip(groups, words)))
        loose = [Group(6, ["a", "b"]), Group(6, ["c"]), Group(6, [])]
        self.assertEqual(word_of_all([(group, "fedcba" * 30) for group in loose]), "fedcba" * 30)

    def test_wrong(self):
        one = Group(2, ["ab"])
        check_wrong(self, meet_word, [one, "a", Group(2, ["aa"]), "b"],
                    [(0, InvalidGroup, WRONG_GROUP), (1, InvalidWord, WRONG_WORD), (2, InvalidGroup, WRONG_GROUP),
                     (2, Unlike, UNLIKE_GROUPS), (3, InvalidWord, WRONG_WORD)])
        pair = (one, "a")
        wrong = [None, True, 3, "", "a", (), {}, one, pair, [], [pair] * 7, (pair,), [pair, None], [list(pair)],
                 [(one,)], [(one, "a", "a")], [("a", one)], [(one, None)], [(one, "c")], [(one, 1)], [pair, (one, ["a"])],
                 [(one, "a" * 1001)], [(one, "a b")], [(None, "a")], [(True, "a")], [pair, (Group(1, ["a"]), "a")],
                 [pair, (Group(3, []), "a")], [[pair]], [((one, "a"), "a")], [pair, pair, (2, "a")]]
        for value in wrong:
            check_error(self, word_of_all, [value], InvalidList, value)
        self.assertEqual(word_of_all([pair] * 6), "a")


class InDoubleTest(unittest.TestCase):
    def test_against_slow(self):
        chance = chance_of(135)
        for many in (1, 2, 3):
            for _ in range(100):
                one, other = random_group(chance, many, 2, 4), random_group(chance, many, 2, 4)
                word, sought = [random_word(chance, many, chance.randint(0, 5)) for _ in range(2)]
                if chance.random() < 0.5:
                    left, right = [chance.choice(members_from(group, 0, 30) if group.rank() else [""])
                                   for group in (one, other)]
                    sought = left + word + right
                slow = meet_word(led(one, say(word)), say(back(word) + sought), other, "") is not None
                self.assertIs(in_double(one, word, other, sought), slow)
                self.assertIs(slow, first_of_double(one, word, other) == first_of_double(one, sought, other))

    def test_in_double(self):
        none, every = Group(2, []), Group(2, ["a", "b"])
        self.assertIs(in_double(none, "abB", none, "a"), True)
        self.assertIs(in_double(none, "ab", none, "a"), False)
        self.assertIs(in_double(every, "ab", none, "bbb"), True)
        self.assertIs(in_double(none, "ab", every, "bbb"), True)
        self.assertIs(in_double(Group(2, ["a"]), "b", Group(2, ["a"]), "aabAAA"), True)
        self.assertIs(in_double(Group(2, ["a"]), "b", Group(2, ["a"]), "aaBAAA"), False)
        chance = chance_of(136)
        one, other = [group_of(2, full_picture(chance, 2, spots)) for spots in (50, 60)]
        words = [random_plain(chance, 2, 200) for _ in range(2)]
        check_quick(self, 5, in_double, one, words[0], other, words[1])
        one = Group(2, [random_plain(chance, 2, 20) for _ in range(2)])
        sought = members_from(one, 50, 51)[0] + words[0]
        self.assertIs(check_quick(self, 5, in_double, one, words[0], Group(2, ["ab" * 30]), sought), True)
        self.assertIs(check_quick(self, 5, in_double, one, words[0], Group(2, ["ab" * 30]), sought + "a"), False)

    def test_wrong(self):
        one = Group(2, ["ab"])
        check_wrong(self, in_double, [one, "a", Group(2, ["aa"]), "b"],
                    [(0, InvalidGroup, WRONG_GROUP), (1, InvalidWord, WRONG_WORD), (2, InvalidGroup, WRONG_GROUP),
                     (2, Unlike, UNLIKE_GROUPS), (3, InvalidWord, WRONG_WORD)])


if __name__ == "__main__":
    unittest.main()
