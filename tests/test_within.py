"""Tests of promise 40."""

import unittest

from signlanes.errors import InvalidGroup, InvalidList, InvalidNumber, InvalidWord
from signlanes.groups import Group, belongs, group_of
from signlanes.members import members_from
from signlanes.within import leader_of_all, leader_within
from tests.helpers import (WRONG_GROUP, WRONG_MANY, WRONG_WORD, back, chance_of, check_quick, check_wrong, full_picture,
                           plain_words, random_group, random_plain, random_word, say, slow_member)

WRONG_PAIRS = [None, True, 1, "", "ab", (), {}, [], (("a", "b"),), [("a", "b")] * 7, [["a", "b"]], [("a",)], ["ab"],
               [("a", "b", "a")], [("a", None)], [(None, "a")], [("a", "c")], [("a", 1)], [("a", "b"), ("a", "b", "b")],
               [("a", "b"), None], [("a", ["b"])], [(("a",), "b")], [[("a", "b")]], [("a" * 1001, "b")],
               [("a", "a b")], [(True, "a")], [("a", "b"), ("", "x")]]


def leads(word, one, other):
    """Whether a word leads a word to another one."""
    return say(back(word) + one + word) == say(other)


class ExampleTest(unittest.TestCase):
    def test_examples(self):
        two = Group(2, ["aa", "b", "abA"])
        self.assertEqual([leader_within(two, "ab", "ba"), leader_within(Group(2, ["a"]), "ab", "ba"),
                          leader_within(Group(2, ["bb"]), "ab", "ba")], ["B", "a", None])
        self.assertEqual([leader_of_all(2, [("a", "a"), ("b", "abA")]), leader_of_all(2, [("a", "a"), ("b", "a")]),
                          leader_of_all(2, [("ab", "ba"), ("", "")])], ["A", None, "a"])

    def test_names_of_arguments(self):
        self.assertEqual(leader_within(group=Group(2, ["a"]), one="ab", other="ba"), "a")
        self.assertEqual(leader_of_all(many=2, pairs=[("ab", "ba")]), "a")


class LeaderWithinTest(unittest.TestCase):
    def test_against_slow(self):
        chance = chance_of(170)
        found_some = 0
        for many, most in ((1, 9), (2, 6), (3, 4)):
            words = plain_words(many, most)
            for _ in range(150):
                group, one = random_group(chance, many, 3, 4), random_word(chance, many, chance.randint(0, 5))
                if chance.random() < 0.3:
                    one = say(one * 3)
                lead = random_word(chance, many, chance.randint(0, 4))
                if chance.random() < 0.6 and group.rank():
                    lead = chance.choice(members_from(group, 0, 30))
                other = say(back(lead) + one + lead)
                found = leader_within(group, one, other)
                slow = next((word for word in words if belongs(group, word) and leads(word, one, other)), None)
                if slow is not None or found is None or len(found) <= most:
                    self.assertEqual(found, slow)
                else:
                    self.assertTrue(belongs(group, found) and leads(found, one, other))
                if belongs(group, lead):
                    self.assertIsNotNone(found)
                found_some += found is not None and len(found) > 1
        self.assertGreater(found_some, 60)

    def test_empty_words(self):
        for group in (Group(2, []), Group(2, ["ab"]), Group(2, ["a", "b"])):
            for one in ("", "aA", "abBA"):
                self.assertEqual(leader_within(group, one, "bB"), "")
                self.assertIsNone(leader_within(group, one, "b"))
                self.assertIsNone(leader_within(group, "b", one))
            self.assertEqual(leader_within(group, "ab", "ab"), "")
            self.assertIsNone(leader_within(group, "a", "b"))
            self.assertIsNone(leader_within(group, "a", "A"))

    def test_first_of_many(self):
        group = Group(1, ["a" * 7])
        self.assertEqual(leader_within(group, "aaa", "aaa"), "")
        # A word leads there that is the first one only with powers of the root taken many times ahead.
        group = Group(2, ["a" * 7 + "b"])
        self.assertEqual(leader_within(group, "aa", "Baab"), "a" * 7 + "b")
        group = Group(2, ["a" * 9, "aaab"])
        self.assertEqual(leader_within(group, "aa", "Baab"), "aaab")
        group = Group(2, ["a" * 9, "a" * 6 + "b"])
        self.assertEqual(leader_within(group, "aa", "Baab"), "AAAb")
        group = Group(2, ["a" * 8, "a" * 4 + "b"])
        self.assertEqual(leader_within(group, "AA", "BAAb"), "aaaab")
        self.assertIsNone(leader_within(Group(2, ["aa", "bb"]), "aa", "Baab"))

    def test_long_words(self):
        chance = chance_of(171)
        group = group_of(2, full_picture(chance, 2, 300))
        for _ in range(5):
            one, lead = random_plain(chance, 2, 60), random_plain(chance, 2, 20)
            other = say(back(lead) + one + lead)
            found = check_quick(self, 5, leader_within, group, one, other)
            if found is not None:
                self.assertTrue(slow_member(group.picture(), found) and leads(found, one, other))
        ring = Group(2, ["a" * 200, "a" * 99 + "b"])
        self.assertEqual(leader_within(ring, "a" * 100, "a" * 100), "")
        self.assertEqual(leader_within(ring, "a" * 90, "B" + "a" * 90 + "b"), "a" * 99 + "b")
        # The first word that leads there may have many more signs than the words that are handed in.
        far = Group(2, ["ab" * 90 + "b"])
        self.assertEqual(leader_within(far, "abab", "Bababb"), "ab" * 90 + "b")
        root = "ab" * 49 + "a"
        found = leader_within(Group(2, [root + root, root + "b"]), root, "B" + root + "b")
        self.assertEqual(found, root + "b")
        found = check_quick(self, 5, leader_within, group_of(2, full_picture(chance, 2, 200)), root, root)
        self.assertEqual(found, "")

    def test_wrong(self):
        check_wrong(self, leader_within, [Group(2, ["aa"]), "a", "b"],
                    [(0, InvalidGroup, WRONG_GROUP), (1, InvalidWord, WRONG_WORD), (2, InvalidWord, WRONG_WORD)])


class LeaderOfAllTest(unittest.TestCase):
    def test_against_slow(self):
        chance = chance_of(172)
        for many, most in ((1, 9), (2, 6), (3, 4)):
            words = plain_words(many, most)
            for _ in range(120):
                lead = random_plain(chance, many, chance.randint(0, 6))
                pairs = []
                for _ in range(chance.randint(1, 4)):
                    one = random_word(chance, many, chance.randint(0, 4))
                    pairs.append((one, say(back(lead) + one + lead)))
                if chance.random() < 0.3:
                    pairs.append((random_word(chance, many, 2), random_word(chance, many, 2)))
                found = leader_of_all(many, pairs)
                slow = next((word for word in words if all(leads(word, *pair) for pair in pairs)), None)
                if slow is not None or found is None or len(found) <= most:
                    self.assertEqual(found, slow)
                else:
                    self.assertTrue(all(leads(found, *pair) for pair in pairs))
                self.assertEqual(leader_of_all(many, pairs[::-1]), found)
                self.assertEqual(leader_of_all(many, pairs[:2] + [("", "aA")]), leader_of_all(many, pairs[:2]))

    def test_numbers_of_pairs(self):
        self.assertEqual(leader_of_all(2, [("ab", "ba")] * 6), "a")
        self.assertEqual(leader_of_all(1, [("a", "a")]), "")
        self.assertEqual(leader_of_all(6, [("", "")]), "")
        self.assertEqual(leader_of_all(6, [("", "aA"), ("fF", "")]), "")
        self.assertIsNone(leader_of_all(2, [("", ""), ("", "a")]))
        self.assertIsNone(leader_of_all(2, [("a", "a"), ("a", "")]))
        self.assertEqual(leader_of_all(3, [("a", "a"), ("b", "b"), ("c", "c")]), "")

    def test_pairs_that_contradict_one_another(self):
        self.assertIsNone(leader_of_all(2, [("a", "a"), ("a", "b")]))
        self.assertIsNone(leader_of_all(2, [("ab", "ba"), ("ba", "ba")]))
        self.assertIsNone(leader_of_all(2, [("a", "baB"), ("b", "abA")]))
        self.assertIsNone(leader_of_all(2, [("a", "a"), ("aa", "A")]))
        self.assertEqual(leader_of_all(2, [("a", "a"), ("aa", "aa"), ("A", "A")]), "")

    def test_long_words(self):
        chance = chance_of(173)
        for _ in range(20):
            lead = random_plain(chance, 2, 8)
            parts = [random_plain(chance, 2, 4) for _ in range(6)]
            pairs = [(say(part), say(back(lead) + part + lead)) for part in parts]
            found = check_quick(self, 3, leader_of_all, 2, pairs)
            self.assertTrue(all(leads(found, *pair) for pair in pairs))
        pairs = [("a", back("a" * 900 + "b") + "a" + "a" * 900 + "b"), ("b", "b")]
        self.assertIsNone(check_quick(self, 3, leader_of_all, 2, [(one, other[:1000]) for one, other in pairs]))

    def test_wrong(self):
        check_wrong(self, leader_of_all, [2, [("a", "b")]],
                    [(0, InvalidNumber, WRONG_MANY), (1, InvalidList, WRONG_PAIRS)])


if __name__ == "__main__":
    unittest.main()
