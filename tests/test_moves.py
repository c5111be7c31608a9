"""Tests of promise 49."""

import unittest

from signlanes.errors import InvalidList, InvalidMove, InvalidNumber, TooLong
from signlanes.groups import Group
from signlanes.moves import is_move, moved
from tests.helpers import (ODD, WRONG_MANY, WRONG_WORDS, back, chance_of, check_error, check_owned, check_wrong,
                           random_word, say, told)

WRONG_ROW = WRONG_WORDS + [["a"] * 13, [""] * 13]
# No moves of a row of two words.
NO_MOVE = ODD + [0, "", "times", ["times", 0, 1], ("times",), ("times", 0), ("times", 0, 0), ("times", 1, 1),
                 ("times", 0, 2), ("times", 2, 0), ("times", -1, 0), ("times", 0, -1), ("times", True, 0),
                 ("times", 0, True), ("times", False, 1), ("times", 0, 1, 1), ("times", 0, 1, -1), ("times", "0", 1),
                 ("times", 0, None), ("times", [0], 1), ("opposite",), ("opposite", 2), ("opposite", -1),
                 ("opposite", True), ("opposite", 0, 1), ("opposite", 0, 0), ("opposite", "a"), ("exchange", 0),
                 ("exchange", 1, 1), ("exchange", 0, 2), ("exchange", 0, False), ("exchange", 0, 1, 0),
                 ("Times", 0, 1), ("time", 0, 1), ("", 0, 1), (0, 1), (0, 0, 1), (None, 0, 1), (("times", 0, 1),),
                 [("times", 0, 1)], ("put", 0, "a"), ("oppose", 0), (["opposite"], 0), ("times", 0, 10 ** 29)]


class MoveTest(unittest.TestCase):
    def test_examples(self):
        self.assertEqual([moved(2, ["ab", "b"], ("times", 1, 0)), is_move(2, ["ab", "b"], ("times", 1, 1))],
                         [["ab", "bab"], False])

    def test_names_of_arguments(self):
        self.assertIs(is_move(many=2, words=["a"], value=("opposite", 0)), True)
        self.assertEqual(moved(many=2, words=["a"], move=("opposite", 0)), ["A"])

    def test_against_slow(self):
        chance = chance_of(220)
        for _ in range(300):
            many, size = chance.randint(1, 6), chance.randint(1, 12)
            words = [random_word(chance, many, chance.randint(0, 6)) for _ in range(size)]
            plain = [say(word) for word in words]
            one, other = chance.randrange(size), chance.randrange(size)
            expected = list(plain)
            if chance.random() < 0.3 or size == 1:
                move = ("opposite", one)
                expected[one] = back(plain[one])
            elif chance.random() < 0.3:
                move = ("exchange", one, other)
                expected[one], expected[other] = plain[other], plain[one]
            else:
                move = ("times", one, other)
                expected[one] = say(words[one] + words[other])
            self.assertIs(is_move(many, words, move), len(move) == 2 or one != other)
            if len(move) == 2 or one != other:
                self.assertEqual(check_owned(self, moved, many, words, move), expected)
                self.assertEqual(Group(many, expected), Group(many, words))

    def test_moves_and_others(self):
        row = ["abB", "Ba"]
        for move in (("times", 0, 1), ("times", 1, 0), ("opposite", 0), ("opposite", 1), ("exchange", 0, 1),
                     ("exchange", 1, 0)):
            self.assertIs(is_move(2, row, move), True)
        for value in NO_MOVE:
            self.assertIs(is_move(2, row, value), False)
            check_error(self, moved, [2, row, value], InvalidMove, value)

    def test_sizes_of_rows(self):
        self.assertIs(is_move(1, [], ("opposite", 0)), False)
        self.assertIs(is_move(1, ["a"], ("times", 0, 1)), False)
        self.assertEqual(moved(1, ["aA"], ("opposite", 0)), [""])
        row = ["a"] * 11 + ["b"]
        self.assertEqual(moved(2, row, ("exchange", 11, 0)), ["b"] + ["a"] * 10 + ["a"])
        self.assertEqual(moved(2, row, ("times", 11, 10)), ["a"] * 11 + ["ba"])
        check_error(self, moved, [2, row, ("times", 11, 12)], InvalidMove, ("times", 11, 12))
        self.assertIs(is_move(2, row, ("times", 12, 11)), False)

    def test_long_products(self):
        row = ["a" * 500, "a" * 500, "b" + "a" * 500, "A" * 1000, "bB" * 500]
        self.assertEqual(moved(2, row, ("times", 0, 1))[0], "a" * 1000)
        self.assertEqual(moved(2, row, ("times", 2, 3))[2], "b" + "A" * 500)
        for move, size in ((("times", 2, 1), 1001), (("times", 3, 2), 1501)):
            self.assertIs(is_move(2, row, move), True)
            error = told(moved, 2, row, move)
            self.assertEqual((type(error), error.value), (TooLong, size))
        self.assertEqual(moved(2, row, ("times", 3, 4))[3], "A" * 1000)
        self.assertEqual(told(moved, 1, ["a" * 1000, "a" * 1000], ("times", 1, 0)).value, 2000)
        self.assertEqual(moved(1, ["a" * 1000, "a" * 1000], ("exchange", 1, 0)), ["a" * 1000] * 2)
        self.assertEqual(moved(1, ["a" * 1000], ("opposite", 0)), ["A" * 1000])

    def test_wrong(self):
        for call in (is_move, moved):
            check_wrong(self, call, [2, ["a"], ("opposite", 0)],
                        [(0, InvalidNumber, WRONG_MANY), (1, InvalidList, WRONG_ROW)])
        check_wrong(self, moved, [2, ["ab", "b"], ("opposite", 0)],
                    [(0, InvalidNumber, WRONG_MANY), (1, InvalidList, WRONG_ROW), (2, InvalidMove, NO_MOVE)])


if __name__ == "__main__":
    unittest.main()
