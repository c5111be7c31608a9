"""Tests of promises 8 and 9."""

import unittest

from signlanes.errors import InvalidNumber, InvalidWord
from signlanes.turns import common_root, first_turn, go_together, hair_and_ring, leader, root
from tests.helpers import (WRONG_MANY, WRONG_WORD, back, chance_of, check_quick, check_wrong, place, plain_words,
                           random_word, say)


class ExampleTest(unittest.TestCase):
    def test_examples(self):
        self.assertEqual([hair_and_ring(2, "abAbaBA"), hair_and_ring(2, "aa"), first_turn(2, "bAab"),
                          leader(2, "ab", "ba"), leader(2, "ab", "aab")],
                         [("abA", "b"), ("", "aa"), "bb", "a", None])
        self.assertEqual([root(2, "abab"), root(2, "aBBA"), root(2, ""), go_together(2, "aa", "AAA"),
                          common_root(2, "aa", "AAA"), common_root(2, "ab", "ba")],
                         [("ab", 2), ("aBA", 2), ("", 0), True, ("a", 2, -3), None])

    def test_names_of_arguments(self):
        self.assertEqual(hair_and_ring(many=1, word="a"), ("", "a"))
        self.assertEqual(first_turn(many=1, word="a"), "a")
        self.assertEqual(leader(many=1, one="a", other="a"), "")
        self.assertEqual(root(many=1, word="a"), ("a", 1))
        self.assertIs(go_together(many=1, one="a", other="A"), True)
        self.assertEqual(common_root(many=1, one="a", other="A"), ("a", 1, -1))


class TurnTest(unittest.TestCase):
    def test_hair_and_ring(self):
        for word in plain_words(2, 6):
            hair, ring = hair_and_ring(2, word)
            self.assertEqual(hair + ring + back(hair), word)
            self.assertTrue(ring == "" or ring[-1] != ring[0].swapcase())
            self.assertTrue(word == "" or ring != "")

    def test_first_turn(self):
        for word in plain_words(2, 6):
            _, ring = hair_and_ring(2, word)
            turns = [ring[at:] + ring[:at] for at in range(len(ring))] or [""]
            self.assertEqual(first_turn(2, word), min(turns, key=place))

    def test_loose_words(self):
        self.assertEqual(hair_and_ring(2, "aAbB"), ("", ""))
        self.assertEqual(first_turn(2, "aA"), "")
        self.assertEqual(first_turn(2, "aAbaB"), "a")
        self.assertEqual(root(2, "aAbB"), ("", 0))
        self.assertEqual(common_root(2, "aA", "bB"), ("", 0, 0))
        self.assertEqual(leader(2, "aA", "bB"), "")

    def test_leader_against_slow(self):
        for one in plain_words(2, 3):
            first = {}
            for word in plain_words(2, 5):
                first.setdefault(say(back(word) + one + word), word)
            for other in plain_words(2, 5):
                if other in first or first_turn(2, one) != first_turn(2, other):
                    self.assertEqual(leader(2, one, other), first.get(other), (one, other))

    def test_leader_of_led_words(self):
        chance = chance_of(3)
        for _ in range(300):
            many = chance.randint(1, 6)
            base = random_word(chance, many, chance.randint(0, 5)) * chance.randint(1, 4)
            other = say(back(word := random_word(chance, many, chance.randint(0, 8))) + base + word)
            found = leader(many, base, other)
            self.assertEqual(say(back(found) + base + found), say(other))
            self.assertLessEqual(place(found), place(say(word)))
            near, times = root(many, base)
            for step in range(-3, 4):
                factor = near * step if step >= 0 else back(near) * -step
                self.assertLessEqual(place(found), place(say(factor + found)))

    def test_leader_ties(self):
        self.assertEqual(leader(2, "ab", "ba"), "a")
        self.assertEqual(leader(2, "abAB", "ABab"), "ab")
        self.assertEqual(leader(2, "aBAb", "AbaB"), "aB")
        self.assertEqual(leader(1, "aaa", "aaa"), "")
        self.assertEqual(leader(2, "a", ""), None)
        self.assertEqual(leader(2, "", "a"), None)
        self.assertEqual(leader(2, "a", "A"), None)

    def test_root_against_slow(self):
        greatest = {}
        for base in plain_words(2, 5)[1:]:
            for times in range(1, 7):
                word = say(base * times)
                if greatest.get(word, ("", 0))[1] < times:
                    greatest[word] = (base, times)
        for word in plain_words(2, 5)[1:]:
            self.assertEqual(root(2, word), greatest[word])
        self.assertEqual(root(2, ""), ("", 0))

    def test_go_together_against_slow(self):
        words = plain_words(2, 3) + ["aaaa", "abab", "BABA", "aBBA", "abbA", "aBBBA"]
        for one in words:
            for other in words:
                together = say(one + other) == say(other + one)
                self.assertIs(go_together(2, one, other), together)
                found = common_root(2, one, other)
                self.assertIs(found is not None, together)
                if found is not None:
                    self.check_common_root(one, other, found)

    def check_common_root(self, one, other, found):
        base, low, high = found
        for word, times in ((one, low), (other, high)):
            self.assertEqual(say((base if times > 0 else back(base)) * abs(times)), word)
        if base:
            self.assertEqual(root(2, base), (base, 1))
            self.assertLess(place(base), place(back(base)))
        else:
            self.assertEqual((one, other, found), ("", "", ("", 0, 0)))

    def test_power_and_empty(self):
        self.assertEqual(common_root(2, "", "BB"), ("b", 0, -2))
        self.assertEqual(common_root(2, "BB", ""), ("b", -2, 0))
        self.assertEqual(common_root(2, "abA", "aBBA"), ("abA", 1, -2))
        self.assertEqual(common_root(2, "aBA", "abA"), ("abA", -1, 1))

    def test_long_words(self):
        long = "ab" * 500
        self.assertEqual(check_quick(self, 2, first_turn, 2, "b" + "ab" * 499 + "a"), long)
        self.assertEqual(check_quick(self, 2, root, 2, long), ("ab", 500))
        self.assertEqual(check_quick(self, 2, leader, 2, long, "ba" * 500), "a")
        self.assertEqual(check_quick(self, 2, common_root, 2, long, "BA" * 500), ("ab", 500, -500))
        self.assertEqual(check_quick(self, 2, leader, 2, "a" * 400 + "b" + "A" * 400, "b"), "a" * 400)


class WrongTest(unittest.TestCase):
    def test_wrong(self):
        many = (0, InvalidNumber, WRONG_MANY)
        word = (1, InvalidWord, WRONG_WORD)
        other = (2, InvalidWord, WRONG_WORD)
        for call in (hair_and_ring, first_turn, root):
            check_wrong(self, call, [2, "a"], [many, word])
        for call in (leader, go_together, common_root):
            check_wrong(self, call, [2, "a", "b"], [many, word, other])


if __name__ == "__main__":
    unittest.main()
