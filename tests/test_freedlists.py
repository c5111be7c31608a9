"""Tests of promise 18."""

import unittest

from signlanes.errors import InvalidList, InvalidNumber, TooMany
from signlanes.freedlists import freed, is_freed, is_spare, without_spare
from signlanes.groups import Group
from tests.helpers import (ODD, WRONG_COUNT, WRONG_LIST, WRONG_MANY, back, chance_of, check_owned, check_quick,
                           check_wrong, mixed_list, plain_words, random_list, random_plain, say, slow_member,
                           slow_picture, told)


def row_says(words, row):
    """What a row says."""
    return say("".join(words[number - 1] if number > 0 else back(words[-number - 1]) for number in row))


def row_as_word(row):
    """A row over at most 6 words as a word of letters."""
    return "".join("abcdef"[number - 1] if number > 0 else "ABCDEF"[-number - 1] for number in row)


def slow_is_freed(many, words, value):
    """Whether a tuple of two lists of rows is as the document says, word for word."""
    rows, empties = value
    for row in rows + empties:
        if not all(0 < abs(number) <= len(words) for number in row) or say(row_as_word(row)) != row_as_word(row):
            return False
    if len(rows) + len(empties) != len(words):
        return False
    picture = slow_picture(many, words)
    if slow_picture(many, [row_says(words, row) for row in rows]) != picture:
        return False
    if sum(row[sign] is not None for row in picture for sign in range(0, 2 * many, 2)) - len(picture) + 1 != len(rows):
        return False
    if any(row_says(words, row) for row in empties):
        return False
    if not words:
        return True
    return slow_picture(len(words), [row_as_word(row) for row in rows + empties]) == [[0] * (2 * len(words))]


def short_list(chance):
    """A number of letters and a list of at most 4 words with at most 60 signs together."""
    many = chance.randint(1, 4)
    words = random_list(chance, many, 2, 7)
    while 0 < len(words) < 4 and chance.random() < 0.7:
        words.append(chance.choice(words + [""]))
    for _ in range(chance.randint(0, 25)):
        if len(words) > 1:
            made = mixed_list(chance, many, words, 1, 60)
            words = made if sum(map(len, made)) <= 60 else words
    return many, words[:4]


class ExampleTest(unittest.TestCase):
    def test_examples(self):
        self.assertEqual([without_spare(1, ["aa", "aaa", "a"]), is_spare(1, ["aa", "aaa"], 1),
                          is_spare(2, ["ab", ""], 1)], [["aa", "aaa"], False, True])
        self.assertEqual([is_freed(1, ["aa", "aaa"], ([[2, -1]], [[1, -2, 1, -2, 1]])),
                          is_freed(1, ["aa", "aaa"], ([[2, -1]], [[1, 1, 1, -2, -2]])),
                          is_freed(2, ["", "a"], ([[2]], [[2, 1, -2]])), len(freed(2, ["ab", "ab", "ba"])[1])],
                         [True, False, True, 1])

    def test_names_of_arguments(self):
        self.assertEqual(freed(many=1, words=["a"]), ([[1]], []))
        self.assertIs(is_freed(many=1, words=["a"], value=([[1]], [])), True)
        self.assertIs(is_spare(many=1, words=["a"], number=0), False)
        self.assertEqual(without_spare(many=1, words=["a"]), ["a"])


class FreedTest(unittest.TestCase):
    def check_found(self, many, words):
        found = check_quick(self, 8, freed, many, words)
        self.assertIsInstance(found, tuple)
        self.assertEqual(len(found), 2)
        self.assertEqual(len(found[0]), Group(many, words).rank())
        if sum(len(row) for rows in found for row in rows) < 1000:
            self.assertIs(slow_is_freed(many, words, found), True, (words, found))
        self.assertEqual(Group(many, [row_says(words, row) for row in found[0]]), Group(many, words))
        self.assertTrue(all(row_says(words, row) == "" for row in found[1]))
        self.assertIs(check_quick(self, 8, is_freed, many, words, found), True)
        self.assertLessEqual(max([len(row) for rows in found for row in rows], default=0), 20000)
        return found

    def test_found(self):
        chance = chance_of(40)
        for _ in range(300):
            self.check_found(*short_list(chance))

    def test_edges(self):
        self.assertEqual(freed(1, []), ([], []))
        self.assertEqual(freed(2, [""]), ([], [[1]]))
        self.assertEqual(freed(2, ["a", "b"]), ([[1], [2]], []))
        for words in (["", ""], ["", "aA", "a"], ["a", "a", "a", "a"], ["a", "A", "", "b"], ["ab", "ab", "ba"],
                      ["aab", "b", "aa", "bb"], ["a" * 30, "a" * 29], ["a" * 10, "a" * 15, "a" * 6],
                      ["a" * 13, "a" * 21], ["abAB", "baBA", "ab", "ba"], ["ab" * 8, "ab" * 7, "b" * 14, "b" * 15]):
            self.check_found(2, words)
        for words in (["a" + "B" * 19, "b" + "C" * 19, "c", "a" * 19], ["c", "b" + "C" * 19, "a" * 19, "B" * 19 + "a"],
                      ["a" + "B" * 28, "b" + "C" * 28, "c", "a"], ["c" * 20, "c" * 19, "bCC", "a" + "B" * 16]):
            self.check_found(3, words)

    def test_no_word_gets_shorter_at_first(self):
        self.check_found(4, ["cA", "aB", "bd", "cd"])
        self.check_found(4, ["cd", "DB", "cA", "Ab"])
        self.check_found(3, ["caA", "bA", "aB", "Ab"])
        self.check_found(4, ["ccAA", "aaBB", "bbdd", "DDCC"])
        self.check_found(4, ["ccaB", "bACa", "AcdB", "dd"])
        chance = chance_of(45)
        words = plain_words(3, 3)
        for _ in range(150):
            self.check_found(3, [chance.choice(words) for _ in range(4)])

    def test_bent_values(self):
        chance = chance_of(41)
        for _ in range(120):
            many, words = short_list(chance)
            rows, empties = freed(many, words)
            for bent in self.bent(chance, rows, empties, len(words)):
                self.assertIs(is_freed(many, words, bent), slow_is_freed(many, words, bent), (words, bent))

    def bent(self, chance, rows, empties, size):
        """Values near a right one, some of them right."""
        found = [(empties, rows), (rows, empties[1:]), (rows[1:], empties), (rows + [[]], empties),
                 (rows, empties + [[]]), (rows[::-1], empties[::-1])]
        for at, row in enumerate(rows):
            for other in [back_row(row), row + row, row[1:], row + [chance.choice((1, -1)) * chance.randint(1, size)]]:
                found.append((rows[:at] + [plain_row(other)] + rows[at + 1:], empties))
            for more in rows + empties:
                if more is not row:
                    found.append((rows[:at] + [plain_row(row + more)] + rows[at + 1:], empties))
        for at, row in enumerate(empties):
            for other in [back_row(row), row + row, row[1:], row + [1]]:
                found.append((rows, empties[:at] + [plain_row(other)] + empties[at + 1:]))
            for more in rows:
                found.append((rows, empties[:at] + [plain_row(more + row + back_row(more))] + empties[at + 1:]))
        return found

    def test_rows_have_to_be_plain(self):
        self.assertIs(is_freed(2, ["a", "b"], ([[1], [2]], [])), True)
        self.assertIs(is_freed(2, ["a", "b"], ([[1, 2, -2], [2]], [])), False)
        self.assertIs(is_freed(2, ["a", ""], ([[1]], [[2, 1, -1]])), False)

    def test_any_value(self):
        words = ["a", "aa"]
        self.assertIs(is_freed(1, words, ([[1]], [[1, 1, -2]])), True)
        for value in ODD + [0, "a", [], ([], []), [[[1]], [[1, 1, -2]]], ([[1]],), ([[1]], [[1, 1, -2]], []),
                            (([1],), [[1, 1, -2]]), ([[1]], ([1, 1, -2],)), ([(1,)], [[1, 1, -2]]),
                            ([[1]], [(1, 1, -2)]), ([[True]], [[1, 1, -2]]), ([["1"]], [[1, 1, -2]]),
                            ([[1]], [[1, 1, -3]]), ([[1]], [[1, 1, 0]]),
                            ([[1]], [[1, 1, None]]), ([1], [[1, 1, -2]]), ([[1]], [None]), (None, [[1, 1, -2]]),
                            ([[1]], None), ([[1]], "a"), ([[[1]]], [[1, 1, -2]]), ([[10 ** 29]], [[1, 1, -2]])]:
            self.assertIs(is_freed(1, words, value), False, value)
        self.assertIs(is_freed(1, [], ([], [])), True)
        self.assertIs(is_freed(1, [], [[], []]), False)

    def test_long_rows(self):
        side = [1, 2] * 4999
        value = ([[1], [2], side + [3] + back_row(side), [1] * 9999 + [4] + [-2] * 9999], [])
        self.assertIs(check_quick(self, 8, is_freed, 4, ["a" * 15, "b" * 15, "c" * 15, "d" * 15], value), True)
        value[0][3][0] = 4
        self.assertIs(check_quick(self, 8, is_freed, 4, ["a" * 15, "b" * 15, "c" * 15, "d" * 15], value), False)
        chance = chance_of(42)
        rows = [self.long_row(chance) for _ in range(4)]
        self.assertIs(check_quick(self, 8, is_freed, 4, ["a" * 15, "b" * 15, "c" * 15, "d" * 15], (rows, [])), False)
        self.assertIs(check_quick(self, 8, is_freed, 4, ["a", "a", "a", "a" * 57], (rows[:1], rows[1:])), False)

    def long_row(self, chance):
        row = [1]
        while len(row) < 20000:
            number = chance.choice((1, -1)) * chance.randint(1, 4)
            if number != -row[-1]:
                row.append(number)
        return row

    def test_results_belong_to_the_caller(self):
        check_owned(self, freed, 2, ["ab", "ab", "ba", ""])
        check_owned(self, freed, 2, ["a", "b"])
        check_owned(self, without_spare, 1, ["aa", "aaa", "a"])


def plain_row(row):
    """The row without numbers beside their negatives."""
    left = []
    for number in row:
        if left and left[-1] == -number:
            left.pop()
        else:
            left.append(number)
    return left


def back_row(row):
    """The row of the opposite."""
    return [-number for number in reversed(row)]


class SpareTest(unittest.TestCase):
    def test_against_slow(self):
        chance = chance_of(43)
        for _ in range(150):
            many = chance.randint(1, 3)
            words = random_list(chance, many, 6, 6)
            for number, word in enumerate(words):
                others = words[:number] + words[number + 1:]
                self.assertIs(is_spare(many, words, number), slow_member(slow_picture(many, others), word))
            left = list(words)
            for number in reversed(range(len(words))):
                others = left[:number] + left[number + 1:]
                if slow_member(slow_picture(many, others), left[number]):
                    left = others
            self.assertEqual(without_spare(many, words), left)

    def test_words_stay_as_they_were(self):
        self.assertEqual(without_spare(2, ["aAb", "b", "aA", ""]), ["aAb"])
        self.assertEqual(without_spare(2, ["a", "A", "bBbb"]), ["a", "bBbb"])
        self.assertEqual(without_spare(2, []), [])
        self.assertEqual(without_spare(2, ["a"] * 12), ["a"])
        self.assertIs(is_spare(2, ["a", "aAa"], 0), True)

    def test_great_pictures_of_others(self):
        chance = chance_of(44)
        words = [random_plain(chance, 2, 200) for _ in range(10)] + ["a", "b"]
        self.assertGreater(len(slow_picture(2, words[:2])), 300)
        self.assertIs(check_quick(self, 8, is_spare, 2, words, 10), False)
        self.assertIs(check_quick(self, 8, is_spare, 2, words, 0), True)
        self.assertEqual(check_quick(self, 8, without_spare, 2, words), ["a", "b"])
        self.assertEqual(without_spare(2, ["a", "b"] + words[:10]), ["a", "b"])
        self.assertEqual(without_spare(2, words[:1] + ["a", "ab"] + words[1:10]), ["a", "ab"])
        self.assertIs(is_spare(2, words[:10] + ["b", "a"], 11), False)


class WrongTest(unittest.TestCase):
    def test_wrong(self):
        many = (0, InvalidNumber, WRONG_MANY)
        words = (1, InvalidList, WRONG_LIST)
        check_wrong(self, freed, [2, ["a"]], [many, words])
        check_wrong(self, is_freed, [2, ["a"], ([[1]], [])], [many, words])
        check_wrong(self, is_spare, [2, ["a"], 0], [many, words, (2, InvalidNumber, WRONG_COUNT + [1, 10 ** 29])])
        check_wrong(self, without_spare, [2, ["a"]], [many, words])

    def test_too_many(self):
        great = ["a" * 199 + "b", "b" * 199 + "a"]
        for call, rest in ((freed, ()), (is_freed, (None,)), (is_spare, (None,)), (without_spare, ())):
            error = told(call, 2, great, *rest)
            self.assertIs(type(error), TooMany)
            self.assertEqual(error.value, 399)
        self.assertIs(type(told(is_spare, 2, [], 0)), InvalidNumber)


if __name__ == "__main__":
    unittest.main()
