"""Tests of promise 44."""

import unittest

from signlanes.errors import InvalidMachine, InvalidNumber, InvalidWord, TooLong
from signlanes.groups import Group
from signlanes.members import member_number, member_numbered
from signlanes.membercounts import how_many_members
from signlanes.setnumbers import how_many_in, how_many_of, place_in, word_in
from signlanes.setproducts import group_words, products
from signlanes.words import how_many_words, word_number, word_numbered
from signlanes.wordsets import WordSet, all_words, no_words, other_words, words_of
from tests.helpers import (WRONG_COUNT, WRONG_SET, WRONG_WORD, chance_of, check_error, check_quick, check_wrong, place,
                           plain_words, random_group, random_plain, random_word, told)
from tests.machines import random_lanes, words_in

SET = words_of(2, ["b", "ab", "A"])


def random_set(chance, many):
    """A set of words; now and then a finite one, or one of all words but some."""
    if chance.random() < 0.3:
        words = words_of(many, [random_word(chance, many, chance.randint(0, 5)) for _ in range(chance.randint(0, 9))])
        return other_words(words) if chance.random() < 0.3 else words
    states = chance.randint(1, 5)
    ends = sorted(chance.sample(range(states), chance.randint(0, states)))
    return WordSet(many, states, random_lanes(chance, many, states, chance.randint(0, 7), 3), ends)


class ExampleTest(unittest.TestCase):
    def test_examples(self):
        even = group_words(Group(1, ["aa"]))
        self.assertEqual([how_many_of(even, 2), how_many_in(even), how_many_in(words_of(2, ["aA", "a", "bB"])),
                          place_in(even, "aaa"), [word_in(even, number) for number in range(4)]],
                         [2, None, 2, 3, ["", "aa", "AA", "aaaa"]])

    def test_names_of_arguments(self):
        self.assertEqual(how_many_in(words=SET), 3)
        self.assertEqual(how_many_of(words=SET, signs=1), 2)
        self.assertEqual(place_in(words=SET, word="b"), 1)
        self.assertEqual(word_in(words=SET, number=2), "ab")


class SetNumberTest(unittest.TestCase):
    def test_against_slow(self):
        chance = chance_of(190)
        kinds = set()
        for many, most in ((1, 9), (2, 5), (3, 4)):
            plain = plain_words(many, most)
            for _ in range(30):
                words = random_set(chance, many)
                found = words_in(words, most)
                for signs in range(most + 1):
                    self.assertEqual(how_many_of(words, signs), sum(len(word) == signs for word in found))
                for number, word in enumerate(found):
                    self.assertEqual(word_in(words, number), word)
                for word in chance.sample(plain, 12 if many > 1 else 8):
                    ahead = sum(place(other) < place(word) for other in found)
                    self.assertEqual(place_in(words, word), ahead)
                    sign = chance.choice("aA")
                    self.assertEqual(place_in(words, sign + sign.swapcase() + word), ahead)
                self.assertIs(how_many_in(words) is None, not words.finite)
                kinds.add((words.empty, words.finite, "" in words))
                if words.finite:
                    self.check_finite(words)
        self.assertEqual(len(kinds), 5)

    def check_finite(self, words):
        """Check the numbers of all words of a finite set, and the next one."""
        size = how_many_in(words)
        found = [word_in(words, number) for number in range(size)]
        self.assertEqual(found, sorted(set(found), key=place))
        self.assertEqual(sum(how_many_of(words, signs) for signs in range(max(map(len, found), default=0) + 1)), size)
        self.assertEqual(words_of(words.many(), found[:40]), words if size <= 40 else words_of(words.many(), found[:40]))
        self.assertEqual([place_in(words, word) for word in found], list(range(size)))
        for number in (size, size + 1, 10 ** 60):
            check_error(self, word_in, [words, number], InvalidNumber, number)

    def test_all_words_and_none(self):
        for many in range(1, 7):
            every, none = all_words(many), no_words(many)
            self.assertEqual([how_many_in(every), how_many_in(none)], [None, 0])
            for signs in (0, 1, 2, 7, 300):
                self.assertEqual(how_many_of(every, signs), how_many_words(many, signs))
                self.assertEqual(how_many_of(none, signs), 0)
            for number in (0, 1, 5, 10 ** 9, 10 ** 50 + 7, 10 ** 100) if many > 1 else (0, 1, 2, 599, 600):
                self.assertEqual(word_in(every, number), word_numbered(many, number))
                check_error(self, word_in, [none, number], InvalidNumber, number)
            for word in ("", "a", "A" * 300, "a" * 1000):
                self.assertEqual(place_in(every, word), word_number(many, word))
                self.assertEqual(place_in(none, word), 0)
        self.assertEqual(word_in(words_of(1, [""]), 0), "")
        self.assertEqual(how_many_in(words_of(1, ["aA"])), 1)

    def test_sets_of_groups(self):
        chance = chance_of(191)
        for _ in range(25):
            group = random_group(chance, 2, 3, 4)
            if group.rank() == 0:
                self.assertEqual(how_many_in(group_words(group)), 1)
                continue
            words = group_words(group)
            self.assertEqual(how_many_of(words, 9), how_many_members(group, 9))
            for number in (0, 3, 10 ** 3, 10 ** 20) if group.rank() > 1 else (0, 3, 17):
                word = member_numbered(group, number)
                self.assertEqual(word_in(words, number), word)
                self.assertEqual(place_in(words, word), number)
                self.assertEqual(member_number(group, word), place_in(words, word))

    def test_places_of_words_that_are_not_in_the_set(self):
        words = words_of(2, ["", "aa", "bB", "ab", "Bab"])
        self.assertEqual([place_in(words, word) for word in ("", "a", "B", "aa", "ab", "aB", "BB", "aaa", "Bab", "bbb")],
                         [0, 1, 1, 1, 2, 3, 3, 3, 3, 3])
        self.assertEqual([place_in(words, word) for word in ("BBB", "aAbB", "aaA", "b" * 1000)], [4, 0, 1, 4])

    def test_great_numbers(self):
        chance = chance_of(192)
        for many in (2, 6):
            words = products(words_of(many, ["a", "bAb", "BBa"]), all_words(many)) - words_of(many, ["b", "ab", "aBBa"])
            for _ in range(5):
                number = chance.randrange(10 ** 50, 10 ** 60)
                word = word_in(words, number)
                self.assertIn(word, words)
                self.assertEqual(place_in(words, word), number)
                self.assertTrue(place(word_in(words, number - 1)) < place(word) < place(word_in(words, number + 1)))

    def test_longest_words(self):
        ones = WordSet(1, 1, [(0, "a", 0)], [0])
        self.assertEqual([word_in(ones, number) for number in (0, 299, 300)], ["", "a" * 299, "a" * 300])
        for number in (301, 302, 10 ** 30, 10 ** 400):
            self.assertEqual(told(word_in, ones, number).value, 301)
            self.assertIs(type(told(word_in, ones, number)), TooLong)
        self.assertEqual(how_many_of(ones, 300), 1)
        self.assertEqual([place_in(ones, "a" * size) for size in (300, 301, 1000)], [300, 301, 1000])
        pair = all_words(2)
        last = how_many_words(2, 0) + sum(how_many_words(2, signs) for signs in range(1, 301)) - 1
        self.assertEqual(word_in(pair, last), "B" * 300)
        self.assertEqual(told(word_in, pair, last + 1).value, 301)

    def test_finite_sets_with_long_words(self):
        # A finite set may have words of more than 300 signs.
        words = WordSet(1, 20, [(at, "a" * 10, at + 1) for at in range(19)], [0, 19])
        self.assertEqual([how_many_in(words), word_in(words, 1), how_many_of(words, 190)], [2, "a" * 190, 1])
        long = products(products(words, words), words_of(1, ["", "a"]))
        self.assertEqual([how_many_in(long), how_many_of(long, 381)], [6, 1])
        self.assertEqual([len(word_in(long, number)) for number in range(4)], [0, 1, 190, 191])
        for number in (4, 5):
            error = told(word_in, long, number)
            self.assertEqual((type(error), error.value), (TooLong, 301))
        check_error(self, word_in, [long, 6], InvalidNumber, 6)
        self.assertEqual([place_in(long, "a" * 381), place_in(long, "A" * 381), place_in(long, "a" * 500)], [5, 6, 6])

    def test_limits(self):
        chance = chance_of(193)
        lanes = [(0, "a", 0), (0, "b", 0), (0, "a", 1)] + [(at, sign, at + 1) for at in range(1, 8) for sign in "ab"]
        last = WordSet(2, 9, lanes, [8])
        parts = [random_plain(chance, 6, 15) for _ in range(36)]
        many = other_words(words_of(6, parts))
        self.assertGreater(len(many.rows()), 450)
        for words in (last, many):
            number = check_quick(self, 5, place_in, words, random_word(chance, words.many(), 1000))
            self.assertGreaterEqual(number, 0)
            number = check_quick(self, 5, place_in, words, random_plain(chance, words.many(), 300)) // 2
            word = check_quick(self, 5, word_in, words, number)
            self.assertTrue(len(word) >= 299 and place_in(words, word) == number)
            check_quick(self, 5, how_many_of, words, 300)
            check_quick(self, 5, how_many_in, words)

    def test_wrong(self):
        check_wrong(self, how_many_in, [SET], [(0, InvalidMachine, WRONG_SET)])
        check_wrong(self, how_many_of, [SET, 1], [(0, InvalidMachine, WRONG_SET), (1, InvalidNumber, WRONG_COUNT)])
        check_wrong(self, place_in, [SET, "a"], [(0, InvalidMachine, WRONG_SET), (1, InvalidWord, WRONG_WORD)])
        check_wrong(self, word_in, [SET, 1], [(0, InvalidMachine, WRONG_SET), (1, InvalidNumber, WRONG_COUNT + [3, 4])])
        check_wrong(self, word_in, [all_words(1), 1], [(1, InvalidNumber, WRONG_COUNT)])
        check_error(self, word_in, [no_words(1), 0], InvalidNumber, 0)


if __name__ == "__main__":
    unittest.main()
