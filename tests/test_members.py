"""Tests of promise 19."""

import unittest

from signlanes.errors import InvalidGroup, InvalidNumber, InvalidWord, TooLong
from signlanes.groups import Group, belongs, group_of
from signlanes.members import member_number, member_numbered, members_from, next_member
from tests.helpers import (WRONG_COUNT, WRONG_GROUP, WRONG_WHOLE, WRONG_WORD, chance_of, check_owned, check_quick,
                           check_wrong, full_picture, place, plain_words, random_list, random_plain, random_word, say,
                           slow_member, told)

ONLY_EMPTY = [Group(1, []), Group(2, [""]), Group(6, ["aA"])]


class ExampleTest(unittest.TestCase):
    def test_examples(self):
        group, thirds = Group(2, ["aa", "ab"]), Group(1, ["aaa"])
        self.assertEqual([member_number(group, "Ab"), member_numbered(group, 6), members_from(group, 1, 4),
                          next_member(group, "b"), member_numbered(thirds, 4), member_number(group, "a")],
                         [4, "BA", ["aa", "ab", "AA"], "aa", "AAAAAA", None])

    def test_names_of_arguments(self):
        group = Group(1, ["aa"])
        self.assertEqual(member_number(group=group, word="AA"), 2)
        self.assertEqual(member_numbered(group=group, number=1), "aa")
        self.assertEqual(members_from(group=group, low=0, high=2), ["", "aa"])
        self.assertEqual(next_member(group=group, word="a"), "aa")


class MemberTest(unittest.TestCase):
    def test_against_slow(self):
        chance = chance_of(50)
        for many, most in ((1, 14), (2, 6), (3, 4), (4, 3)):
            words = plain_words(many, most)
            for _ in range(25):
                group = Group(many, random_list(chance, many, 4, 6) or ["a"])
                if group.rank() == 0:
                    continue
                rows = group.picture()
                members = [word for word in words if slow_member(rows, word)]
                self.assertEqual([member_numbered(group, at) for at in range(len(members))], members)
                self.assertEqual(members_from(group, 0, min(1000, len(members))), members[:1000])
                self.assertEqual([member_number(group, word) for word in members], list(range(len(members))))
                self.check_next(group, words, members)

    def check_next(self, group, words, members):
        for word in words[::7]:
            behind = [member for member in members if place(member) > place(word)]
            found = next_member(group, word)
            if behind:
                self.assertEqual(found, behind[0])
            else:
                self.assertGreater(place(found), place(word))
                self.assertIs(belongs(group, found), True)
                self.assertEqual(member_number(group, found), len(members))
            if word not in members:
                self.assertIsNone(member_number(group, word))

    def test_loose_words(self):
        group = Group(2, ["aa", "ab"])
        self.assertEqual(member_number(group, "bBAAab"), 4)
        self.assertEqual(member_number(group, "aA"), 0)
        self.assertEqual(next_member(group, "aAb"), "aa")
        self.assertEqual(next_member(group, "bB"), "aa")

    def test_great_numbers(self):
        chance = chance_of(51)
        for many, words in ((2, ["aa", "b", "abA"]), (2, ["aab", "bb"]), (6, list("abcdef")), (3, ["ab", "ca", "bbc"]),
                            (2, ["abABab", "bbba"])):
            group = Group(many, words)
            for figures in (1, 5, 15, 20) if len(words[0]) > 5 else (1, 5, 20, 30, 45):
                number = chance.randrange(10 ** figures)
                word = member_numbered(group, number)
                self.assertIs(belongs(group, word), True)
                self.assertEqual(member_number(group, word), number)
                following = member_numbered(group, number + 1)
                self.assertEqual(next_member(group, word), following)
                self.assertEqual(members_from(group, number, number + 2), [word, following])

    def test_last_words_of_300_signs(self):
        for many, words, last in ((1, ["a"], "A" * 300), (1, ["aaa"], "A" * 300), (2, ["a", "b"], "B" * 300),
                                  (2, ["aa", "b"], "B" * 300), (6, list("abcdef"), "F" * 300)):
            group = Group(many, words)
            number = member_number(group, last)
            self.assertEqual(member_numbered(group, number), last)
            for call, rest in ((member_numbered, (number + 1,)), (members_from, (number + 1, number + 2)),
                               (members_from, (number, number + 2)), (members_from, (number - 1, number + 999)),
                               (members_from, (number + 5, number + 1005))):
                error = told(call, group, *rest)
                self.assertIs(type(error), TooLong)
                self.assertEqual(error.value, 301)
            self.assertEqual(members_from(group, number, number + 1), [last])
            self.assertEqual(members_from(group, number + 1, number + 1), [])
            following = next_member(group, last)
            self.assertGreater(len(following), 300)
            self.assertEqual(following[:4], "aaaa")
            self.assertEqual(member_number(group, following), number + 1)
        self.assertEqual(told(member_numbered, Group(2, ["a", "b"]), 10 ** 200).value, 301)
        self.assertEqual(told(member_numbered, Group(1, ["a"]), 10 ** 29).value, 301)

    def test_groups_with_gaps(self):
        group = Group(2, ["a" * 100 + "b" + "A" * 99])
        self.assertEqual(members_from(group, 0, 5), ["", "a" * 100 + "b" + "A" * 99, "a" * 99 + "B" + "A" * 100,
                                                     "a" * 99 + "abab" + "A" * 99, "a" * 99 + "BABA" + "A" * 99])
        self.assertEqual(next_member(group, "b" * 200), "a" * 99 + "abab" + "A" * 99)
        self.assertEqual(next_member(group, "a" * 250), "a" * 99 + "ab" * 26 + "A" * 99)
        self.assertEqual(next_member(Group(1, ["a" * 200]), "a"), "a" * 200)
        self.assertEqual(next_member(Group(1, ["a" * 200]), "a" * 200), "A" * 200)
        self.assertEqual(next_member(Group(1, ["a" * 200]), "A" * 200), "a" * 400)

    def test_the_empty_word_alone(self):
        for group in ONLY_EMPTY:
            self.assertEqual(member_number(group, ""), 0)
            self.assertEqual(member_number(group, "aA"), 0)
            self.assertIsNone(member_number(group, "a"))
            self.assertEqual(member_numbered(group, 0), "")
            self.assertIsNone(next_member(group, ""))
            self.assertIsNone(next_member(group, "a"))
            self.assertEqual(members_from(group, 0, 0), [])
            self.assertEqual(members_from(group, 0, 1), [""])
            self.assertEqual(members_from(group, 1, 1), [])
            for number in (1, 2, 10 ** 29):
                error = told(member_numbered, group, number)
                self.assertIs(type(error), InvalidNumber)
                self.assertEqual(error.value, number)
            for low, high in ((0, 2), (1, 2), (2, 2), (2, 3), (5, 5), (0, 1000), (2, 1), (1, 0)):
                error = told(members_from, group, low, high)
                self.assertIs(type(error), InvalidNumber)
                self.assertEqual(error.value, high)

    def test_bounds_of_members_from(self):
        group = Group(2, ["aa", "b"])
        self.assertEqual(members_from(group, 7, 7), [])
        self.assertEqual(len(members_from(group, 10 ** 29, 10 ** 29 + 1000)), 1000)
        self.assertEqual(members_from(group, 10 ** 300, 10 ** 300), [])
        for low, high in ((0, 1001), (5, 4), (0, -1), (10 ** 20, 10 ** 20 + 1001), (10 ** 20, 10 ** 20 - 1)):
            error = told(members_from, group, low, high)
            self.assertIs(type(error), InvalidNumber)
            self.assertEqual(error.value, high)
        self.assertEqual(told(members_from, group, 5, 4).value, 4)

    def test_great_pictures(self):
        chance = chance_of(52)
        group = group_of(6, full_picture(chance, 6, 300))
        number = 10 ** 270 + 12345
        word = check_quick(self, 8, member_numbered, group, number)
        self.assertEqual(check_quick(self, 8, member_number, group, word), number)
        found = check_quick(self, 8, members_from, group, number, number + 1000)
        self.assertEqual(found[0], word)
        self.assertEqual(len({*found}), 1000)
        for at in range(0, 999, 111):
            self.assertEqual(member_number(group, found[at]), number + at)
            self.assertEqual(check_quick(self, 8, next_member, group, found[at]), found[at + 1])
        check_quick(self, 8, next_member, group, random_plain(chance, 6, 300))
        self.assertIs(belongs(group, check_quick(self, 8, next_member, group, "F" * 300)), True)

    def test_words_off_the_picture(self):
        chance = chance_of(53)
        words = plain_words(2, 6)
        for _ in range(60):
            group = Group(2, [random_plain(chance, 2, chance.randint(1, 4)) for _ in range(2)])
            rows = group.picture()
            members = [word for word in words if slow_member(rows, word)]
            word = random_word(chance, 2, chance.randint(0, 4))
            behind = [member for member in members if place(member) > place(say(word))]
            if behind:
                self.assertEqual(next_member(group, word), behind[0])

    def test_results_belong_to_the_caller(self):
        check_owned(self, members_from, Group(2, ["aa", "b"]), 3, 20)


class WrongTest(unittest.TestCase):
    def test_wrong(self):
        group, right = (0, InvalidGroup, WRONG_GROUP), Group(2, ["aa", "ab"])
        word = (1, InvalidWord, WRONG_WORD)
        number = (1, InvalidNumber, WRONG_COUNT)
        high = (2, InvalidNumber, WRONG_WHOLE + [0, 1002])
        check_wrong(self, member_number, [right, ""], [group, word])
        check_wrong(self, next_member, [right, ""], [group, word])
        check_wrong(self, member_numbered, [right, 1], [group, number])
        check_wrong(self, members_from, [right, 1, 3], [group, number, high])
        for only in ONLY_EMPTY:
            check_wrong(self, members_from, [only, 0, 1], [group, number, (2, InvalidNumber, WRONG_WHOLE + [-1, 2])])


if __name__ == "__main__":
    unittest.main()
