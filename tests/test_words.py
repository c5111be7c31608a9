"""Tests of promises 4, 6 and 7."""

import unittest

from signlanes.errors import InvalidList, InvalidNumber, InvalidWord, TooLong
from signlanes.words import (ahead, how_many_words, is_plain, is_word, opposite, plain, power, product, word_number,
                             word_numbered)
from tests.helpers import (ODD, WRONG_COUNT, WRONG_MANY, WRONG_WHOLE, WRONG_WORD, WRONG_WORDS, back, chance_of,
                           check_quick, check_wrong, place, plain_words, random_word, say, told)


class ExampleTest(unittest.TestCase):
    def test_examples(self):
        self.assertEqual([plain(2, "abBAab"), plain(2, "aAbB"), product(2, ["ab", "Ba"]), opposite(2, "abA"),
                          power(2, "abA", 3), power(2, "ab", -2)], ["ab", "", "aa", "aBA", "abbbA", "BABA"])
        self.assertEqual([is_word(2, "aBc"), is_plain(2, "aBA"), is_plain(2, "abBA"), ahead(2, "bb", "aaa"),
                          ahead(2, "aB", "Ab"), how_many_words(2, 3)], [False, True, False, True, True, 36])
        self.assertEqual([[word_numbered(2, number) for number in range(7)], word_number(2, "aA"),
                          word_number(2, "ab"), word_numbered(1, 5)],
                         [["", "a", "A", "b", "B", "aa", "ab"], 0, 6, "aaa"])

    def test_names_of_arguments(self):
        self.assertTrue(is_word(many=1, value="a"))
        self.assertTrue(is_plain(many=1, value="a"))
        self.assertEqual(plain(many=1, word="aA"), "")
        self.assertEqual(product(many=1, words=["a", "a"]), "aa")
        self.assertEqual(opposite(many=1, word="a"), "A")
        self.assertEqual(power(many=1, word="a", times=2), "aa")
        self.assertTrue(ahead(many=1, one="a", other="A"))
        self.assertEqual(how_many_words(many=1, signs=2), 2)
        self.assertEqual(word_number(many=1, word="A"), 2)
        self.assertEqual(word_numbered(many=1, number=2), "A")


class WordTest(unittest.TestCase):
    def test_is_word(self):
        for many in range(1, 7):
            signs = "aAbBcCdDeEfF"
            for at, sign in enumerate(signs):
                self.assertIs(is_word(many, sign), at < 2 * many)
                self.assertIs(is_plain(many, "a" + sign), at < 2 * many and sign != "A")
            self.assertIs(is_word(many, ""), True)
            self.assertIs(is_plain(many, ""), True)
            self.assertIs(is_word(many, "aA" * 500), True)
            self.assertIs(is_plain(many, "aA" * 500), False)
            self.assertIs(is_plain(many, "a" * 1000), True)
            self.assertIs(is_word(many, "a" * 1001), False)
            self.assertIs(is_plain(many, "a" * 1001), False)

    def test_any_value(self):
        for value in WRONG_WORD + ODD:
            self.assertIs(is_word(2, value), False)
            self.assertIs(is_plain(2, value), False)

    def test_plain_against_slow(self):
        chance = chance_of(1)
        for _ in range(300):
            many = chance.randint(1, 6)
            word = random_word(chance, many, chance.randint(0, 40))
            other = random_word(chance, many, chance.randint(0, 40))
            self.assertEqual(plain(many, word), say(word))
            self.assertEqual(opposite(many, word), back(say(word)))
            self.assertEqual(product(many, [word, other, word]), say(word + other + word))
            self.assertIs(is_plain(many, word), say(word) == word)
            self.assertIs(ahead(many, word, other), place(say(word)) < place(say(other)))

    def test_product_bounds(self):
        self.assertEqual(product(2, []), "")
        self.assertEqual(product(2, ["", "aA"]), "")
        self.assertEqual(product(2, ["a" * 500, "b" * 500]), "a" * 500 + "b" * 500)
        error = told(product, 2, ["a" * 500, "b" * 501])
        self.assertIs(type(error), TooLong)
        self.assertEqual(error.value, 1001)
        self.assertEqual(product(2, ["a" * 1000, "A" * 1000] * 50), "")
        self.assertEqual(told(product, 1, ["a" * 1000] * 100).value, 100000)

    def test_power(self):
        for word in ["", "a", "ab", "abA", "aabA", "abBA", "abaBA"]:
            for times in range(-6, 7):
                factor = word if times > 0 else back(word)
                self.assertEqual(power(2, word, times), say(factor * abs(times)))

    def test_power_bounds(self):
        self.assertEqual(power(2, "abA", 998), "a" + "b" * 998 + "A")
        self.assertEqual(told(power, 2, "abA", 999).value, 1001)
        self.assertEqual(told(power, 2, "abA", -999).value, 1001)
        self.assertEqual(power(2, "abA", -998), "a" + "B" * 998 + "A")
        self.assertEqual(power(1, "a", 1000), "a" * 1000)
        great = 10 ** 30 - 1
        error = told(power, 2, "abA", great)
        self.assertIs(type(error), TooLong)
        self.assertEqual(error.value, great + 2)
        self.assertEqual(told(power, 2, "ab", -great).value, 2 * great)
        self.assertEqual(power(2, "aA", great), "")
        self.assertEqual(power(2, "ab", 0), "")
        self.assertEqual(power(2, "a" * 1000, 0), "")


class NumberTest(unittest.TestCase):
    def test_all_short_words(self):
        for many, most in ((1, 12), (2, 5), (3, 4), (4, 3), (5, 3), (6, 3)):
            words = plain_words(many, most)
            self.assertEqual([word_numbered(many, number) for number in range(len(words))], words)
            self.assertEqual([word_number(many, word) for word in words], list(range(len(words))))
            for signs in range(most + 1):
                self.assertEqual(how_many_words(many, signs), len([word for word in words if len(word) == signs]))

    def test_ahead_is_a_strict_order(self):
        words = plain_words(2, 3)
        for one in range(0, len(words), 5):
            for other in range(len(words)):
                self.assertIs(ahead(2, words[one], words[other]), one < other)

    def test_loose_words(self):
        self.assertEqual(word_number(2, "bBa"), 1)
        self.assertIs(ahead(2, "aA", ""), False)
        self.assertIs(ahead(2, "aAbB", "b"), True)

    def test_300_signs(self):
        for many in range(1, 7):
            self.assertEqual(how_many_words(many, 300), 2 * many * (2 * many - 1) ** 299)
            last = SIGN_LAST[many] * 300
            count = sum(how_many_words(many, signs) for signs in range(301))
            self.assertEqual(word_number(many, last), count - 1)
            self.assertEqual(word_numbered(many, count - 1), last)
            self.assertEqual(word_number(many, "a" * 301), count)
            error = told(word_numbered, many, count)
            self.assertIs(type(error), TooLong)
            self.assertEqual(error.value, 301)
            self.assertEqual(told(word_numbered, many, 10 ** 400).value, 301)
            self.assertEqual(check_quick(self, 2, word_number, many, "a" * 1000) > count, True)

    def test_there_and_back(self):
        chance = chance_of(2)
        for _ in range(100):
            many = chance.randint(1, 6)
            number = chance.randint(0, 500 if many == 1 else 10 ** chance.randint(0, 60))
            self.assertEqual(word_number(many, word_numbered(many, number)), number)


SIGN_LAST = {1: "A", 2: "B", 3: "C", 4: "D", 5: "E", 6: "F"}


class WrongTest(unittest.TestCase):
    def test_wrong(self):
        many = (0, InvalidNumber, WRONG_MANY)
        word = (1, InvalidWord, WRONG_WORD)
        other = (2, InvalidWord, WRONG_WORD)
        check_wrong(self, is_word, [2, "a"], [many])
        check_wrong(self, is_plain, [2, "a"], [many])
        check_wrong(self, plain, [2, "a"], [many, word])
        check_wrong(self, opposite, [2, "a"], [many, word])
        check_wrong(self, word_number, [2, "a"], [many, word])
        check_wrong(self, product, [2, ["a"]], [many, (1, InvalidList, WRONG_WORDS)])
        check_wrong(self, power, [2, "a", 2], [many, word, (2, InvalidNumber, WRONG_WHOLE)])
        check_wrong(self, ahead, [2, "a", "b"], [many, word, other])
        check_wrong(self, how_many_words, [2, 3], [many, (1, InvalidNumber, WRONG_COUNT)])
        check_wrong(self, word_numbered, [2, 3], [many, (1, InvalidNumber, WRONG_COUNT)])

    def test_arguments_stay(self):
        words = ["ab", "BA"]
        product(2, words)
        self.assertEqual(words, ["ab", "BA"])


if __name__ == "__main__":
    unittest.main()
