"""Tests of promises 58 and 59."""

import itertools
import unittest

from signlanes.blocks import basis_with, blocks
from signlanes.errors import InvalidList, InvalidNumber, InvalidWord
from signlanes.leastrows import change, least, ties
from signlanes.roundrows import is_cut, letter_images, row_moved, row_of
from signlanes.turns import first_turn
from tests.helpers import (WRONG_MANY, WRONG_WORD, back, chance_of, check_owned, check_quick, check_wrong, mixed_list,
                           random_plain, random_word, say, slow_picture)
from tests.test_leastrows import size, tangled
from tests.test_roundrows import WRONG_ROUND, random_cut, random_row


def makes_all(many, words):
    """Whether the group of words has all words."""
    return slow_picture(many, words) == [[0] * (2 * many)]


class ExampleTest(unittest.TestCase):
    def test_examples(self):
        self.assertEqual([basis_with(2, "abAB"), basis_with(2, "aa"), basis_with(2, "abA")[0],
                          blocks(3, ["aa", "bcBC"])[1], blocks(3, ["abc"])[1]],
                         [None, None, "abA", ["a", "bc"], ["a", "b", "c"]])

    def test_names_of_arguments(self):
        self.assertEqual(basis_with(many=1, word="A"), ["A"])
        self.assertEqual(blocks(many=1, row=["a"]), ([], ["a"]))


class BasisWithTest(unittest.TestCase):
    def check(self, many, word):
        """Check the list of a word, and that there is none just if the least row of its ring has more signs."""
        found = check_owned(self, basis_with, many, word)
        ring = first_turn(many, word)
        single = ring != "" and size(least(many, [ring])[1]) == 1
        self.assertIs(found is not None, single)
        if found is not None:
            self.assertEqual((found[0], len(found)), (say(word), many))
            self.assertEqual([say(part) for part in found], found)
            self.assertTrue(makes_all(many, found))
        return found

    def test_words_of_bases(self):
        chance = chance_of(280)
        for _ in range(150):
            many = chance.randint(1, 6)
            words = mixed_list(chance, many, "abcdef"[:many], chance.randint(0, 30), 24) if many > 1 else ["A"]
            for word in words:
                self.assertIsNotNone(self.check(many, word))
            cuts = [random_cut(chance, many) for _ in range(3)]
            for word in letter_images(many, cuts):
                if len(word) <= 24:
                    self.assertIsNotNone(self.check(many, word))

    def test_other_words(self):
        chance = chance_of(281)
        found_none = 0
        for _ in range(300):
            many = chance.randint(1, 4)
            found_none += self.check(many, random_word(chance, many, chance.randint(1, 12))) is None
        self.assertTrue(60 < found_none < 290)

    def test_all_short_words(self):
        # A word of two letters is in a basis just if some second word makes all words with it.
        plain = [word for word in map("".join, itertools.product("aAbB", repeat=3)) if say(word) == word]
        others = [word for size in (0, 1, 2, 3) for word in map("".join, itertools.product("aAbB", repeat=size))]
        for word in plain:
            known = any(makes_all(2, [word, other]) for other in others)
            self.assertIs(self.check(2, word) is not None, known)

    def test_edges(self):
        for many, word, is_in in ((1, "a", True), (1, "A", True), (1, "aa", False), (1, "", False), (2, "aA", False),
                                  (6, "", False), (6, "F", True), (2, "abab", False), (2, "aab", True),
                                  (2, "aabb", False), (3, "aabbc", True), (3, "aabbcc", False), (3, "abAB", False),
                                  (3, "abABc", True), (2, "a" * 23 + "b", True), (2, "a" * 12 + "b" * 12, False),
                                  (2, "ab" * 11 + "a" + "b" * 0, True), (2, "ab" * 12, False), (6, "abcdef" * 4, False),
                                  (6, "abcdefABCDEF" * 2, False), (6, "abcdefABCDE", True), (2, "Ab", True),
                                  (2, "bbbaBBB", True), (2, "bbbaaBBB", False), (2, "aAbBab", True)):
            self.assertIs(self.check(many, word) is not None, is_in, (many, word))

    def test_limits(self):
        chance = chance_of(282)
        for _ in range(60):
            many = chance.randint(2, 6)
            words = mixed_list(chance, many, "abcdef"[:many], 60, 24)
            word = max(words, key=len)
            found = check_quick(self, 3, basis_with, many, word)
            self.assertEqual(found[0], word)
            self.assertIsNone(check_quick(self, 3, basis_with, many, random_plain(chance, many, 12) * 2))
        for word in ("a" + "b" * 900, "ab" * 400 + "a", random_plain(chance, 6, 990) + "a"):
            check_quick(self, 8, basis_with, 6, word)
        hair = "ab" * 200
        self.assertEqual(basis_with(2, hair + "a" + back(hair))[0], hair + "a" + back(hair))

    def test_wrong(self):
        check_wrong(self, basis_with, [2, "a"], [(0, InvalidNumber, WRONG_MANY), (1, InvalidWord, WRONG_WORD)])


def slow_parts(many, row):
    """The strings of letters that hang together by the ties of a row."""
    parts = [{letter} for letter in "abcdef"[:many]]
    for one, other, _ in ties(many, row):
        both = [part for part in parts if one.lower() in part or other.lower() in part]
        parts = [part for part in parts if part not in both] + [set().union(*both)]
    return sorted("".join(sorted(part)) for part in parts)


class BlockTest(unittest.TestCase):
    def check(self, many, row):
        """Check what is told of a row; the strings are returned."""
        found = check_owned(self, blocks, many, row)
        self.assertIs(type(found), tuple)
        cuts, parts = found
        at = row
        for cut in cuts:
            self.assertTrue(is_cut(many, cut))
            self.assertLess(change(many, at, cut), 0)
            at = row_moved(many, at, cut)
        self.assertEqual(least(many, at)[0], [])
        self.assertEqual(parts, slow_parts(many, at))
        self.assertEqual(sorted("".join(parts)), list("abcdef"[:many]))
        for word in at:
            self.assertEqual(sum(any(sign.lower() in part for sign in word) for part in parts), 1)
        return parts

    def test_against_slow(self):
        chance = chance_of(283)
        for _ in range(150):
            many = chance.randint(1, 6)
            row = random_row(chance, many, 6)
            parts = self.check(many, row)
            # No map of letters that can be undone leads to a row with more strings.
            for _ in range(4):
                other = tangled(chance, many, row, 40)
                self.assertEqual(len(self.check(many, other)), len(parts))
                self.assertLessEqual(len(slow_parts(many, other)), len(parts))

    def test_strings_behind_cuts_only(self):
        chance = chance_of(284)
        for row, sizes in ((["aabb", "cc"], [1, 1, 2]), (["abAB", "cdCD"], [2, 2]), (["aa", "bb", "cc", "dd"], [1] * 4),
                           (["aabbcc", "dd"], [1, 3]), (["aabb"], [1, 1, 2]), (["abcABC"], [1, 1, 2])):
            for _ in range(5):
                other = row
                while len(slow_parts(4, other)) > 1:
                    other = row_moved(4, other, random_cut(chance, 4))
                self.assertEqual(sorted(map(len, self.check(4, other))), sorted(sizes))

    def test_edges(self):
        self.assertEqual(self.check(1, ["a"]), ["a"])
        self.assertEqual(self.check(6, ["d"]), list("abcdef"))
        self.assertEqual(self.check(3, ["aa", "A", "aaaa"]), ["a", "b", "c"])
        self.assertEqual(self.check(4, row_of(4, ["bDbD" + "bb", "ca"])), ["a", "bd", "c"])
        self.assertEqual(self.check(2, ["a", "ab"]), ["a", "b"])
        self.assertEqual(self.check(2, ["aabb"]), ["ab"])
        self.assertEqual(self.check(3, ["a", "abAB"]), ["ab", "c"])
        self.assertEqual(self.check(6, ["abAB", "cdCD", "efEF"]), ["ab", "cd", "ef"])
        self.assertEqual(sorted(map(len, self.check(6, row_of(6, ["aebE", "cf"])))), [1] * 6)

    def test_limits(self):
        chance = chance_of(285)
        for many, most in ((3, 200), (6, 60)):
            row = row_of(many, [random_plain(chance, many, most // 4) for _ in range(4)])
            check_quick(self, 5, blocks, many, row)
            check_quick(self, 5, blocks, many, tangled(chance, many, ["abAB"], most))

    def test_wrong(self):
        check_wrong(self, blocks, [2, ["ab"]], [(0, InvalidNumber, WRONG_MANY), (1, InvalidList, WRONG_ROUND)])


if __name__ == "__main__":
    unittest.main()
