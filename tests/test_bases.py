"""Tests of promises 15, 16 and 17."""

import unittest

from signlanes.bases import basis, basis_row, first_word, is_basis, is_row, least_lengths, row_word, rows_between
from signlanes.errors import InvalidGroup, InvalidList, InvalidNumber, InvalidRow, InvalidWord, TooMany, Unlike
from signlanes.groups import Group, belongs, group_of, way
from tests.helpers import (ODD, WRONG_COUNT, WRONG_GROUP, WRONG_LIST, WRONG_MANY, WRONG_WORD, WRONG_WORDS, back,
                           chance_of, check_owned, check_quick, check_wrong, mixed_list, plain_words, random_list,
                           random_plain, random_word, say, told)

WRONG_ROW = ODD + [0, "a", "1", (1,), [0], [4], [-4], [1, None], [1, True], [True], ["1"], [1, [1]], [10 ** 29],
                   [1, (1,)]]


def row_says(words, row):
    """What a row says."""
    return say("".join(words[number - 1] if number > 0 else back(words[-number - 1]) for number in row))


def random_row(chance, size, most):
    """A row over so many words, with at most so many numbers."""
    if size == 0:
        return []
    return [chance.choice((1, -1)) * chance.randint(1, size) for _ in range(chance.randint(0, most))]


def is_plain_row(row):
    return all(row[at] != -row[at + 1] for at in range(len(row) - 1))


def put_in(rows, row):
    """A row with rows in the place of its numbers, made plain."""
    found = []
    for number in row:
        for part in rows[number - 1] if number > 0 else [-item for item in reversed(rows[-number - 1])]:
            if found and found[-1] == -part:
                found.pop()
            else:
                found.append(part)
    return found


class ExampleTest(unittest.TestCase):
    def test_examples(self):
        group = Group(2, ["aa", "ab"])
        self.assertEqual([group.rank(), first_word(group, 1), basis(group), basis_row(group, "Ba"),
                          basis_row(group, "AA"), basis_row(group, "aB"), basis(Group(2, []))],
                         [2, "a", ["aa", "ab"], [-2, 1], [-1], None, []])
        self.assertEqual([row_word(2, ["aa", "ab"], [-1, 2]), is_row(2, [1, -3]), is_basis(2, ["aa", "ab", "ba"]),
                          is_basis(1, ["aa", "aaa"]), is_basis(2, ["aA"]), least_lengths(group)],
                         ["Ab", False, True, False, False, [2, 2]])
        self.assertEqual(rows_between(2, ["aa", "ab"], ["Ba", "ab"]), ([[2, 1], [2]], [[-2, 1], [2]]))

    def test_names_of_arguments(self):
        group = Group(1, ["aa"])
        self.assertEqual(first_word(group=group, spot=1), "a")
        self.assertEqual(basis(group=group), ["aa"])
        self.assertIs(is_row(size=1, value=[1]), True)
        self.assertEqual(row_word(many=1, words=["aa"], row=[1]), "aa")
        self.assertEqual(basis_row(group=group, word="aa"), [1])
        self.assertIs(is_basis(many=1, words=["a"]), True)
        self.assertEqual(least_lengths(group=group), [2])
        self.assertEqual(rows_between(many=1, one=["a"], other=["A"]), ([[-1]], [[-1]]))


class BasisTest(unittest.TestCase):
    def test_first_words_against_slow(self):
        chance = chance_of(30)
        words = plain_words(2, 6)
        for _ in range(80):
            group = Group(2, random_list(chance, 2, 4, 6))
            first = {}
            for word in words:
                passed = way(group, word)
                if len(passed) == len(word) + 1:
                    first.setdefault(passed[-1], word)
            for spot in range(len(group.picture())):
                self.assertEqual(first_word(group, spot), first[spot])

    def test_basis_words(self):
        chance = chance_of(31)
        for _ in range(150):
            many = chance.randint(1, 6)
            group = Group(many, random_list(chance, many, 5, 8))
            found = basis(group)
            self.assertEqual(len(found), group.rank())
            for word in found:
                self.assertEqual(say(word), word)
                self.assertIs(belongs(group, word), True)
            if len(found) <= 12:
                self.assertEqual(Group(many, found), group)
            self.assertEqual(least_lengths(group), sorted(map(len, found)))
            self.assertEqual([basis_row(group, word) for word in found], [[at + 1] for at in range(len(found))])

    def test_order_of_basis_words(self):
        group = Group(2, ["aa", "b", "abA"])
        self.assertEqual(basis(group), ["b", "aa", "abA"])
        self.assertEqual(basis(Group(3, ["C", "B", "A"])), ["a", "b", "c"])
        self.assertEqual(basis(Group(1, ["AAA"])), ["aaa"])
        self.assertEqual(basis(Group(2, ["aBA"])), ["abA"])

    def test_basis_rows(self):
        chance = chance_of(32)
        for _ in range(200):
            many = chance.randint(1, 4)
            words = random_list(chance, many, 5, 6)
            group = Group(many, words)
            size = group.rank()
            word = random_word(chance, many, chance.randint(0, 8))
            row = basis_row(group, word)
            self.assertIs(row is not None, belongs(group, word))
            if row is not None:
                self.check_row(group, row, word)
            sought = random_row(chance, size, 8)
            word = row_says(basis(group), sought)
            row = basis_row(group, word)
            self.check_row(group, row, word)
            self.assertEqual(row, put_in([[at + 1] for at in range(size)], sought))

    def check_row(self, group, row, word):
        self.assertIs(is_plain_row(row), True)
        self.assertEqual(row_says(basis(group), row), say(word))

    def test_no_shorter_basis(self):
        chance = chance_of(33)
        for _ in range(100):
            many = chance.randint(1, 3)
            words = [random_plain(chance, many, chance.randint(1, 8)) for _ in range(chance.randint(1, 4))]
            group = Group(many, words)
            other = basis(group)
            for _ in range(5):
                if len(other) > 1:
                    other = mixed_list(chance, many, other, 3, 60)
                self.assertIs(is_basis(many, other), True)
                lengths = sorted(map(len, other))
                self.assertTrue(all(low <= high for low, high in zip(least_lengths(group), lengths)))

    def test_is_basis(self):
        self.assertIs(is_basis(1, []), True)
        self.assertIs(is_basis(1, [""]), False)
        self.assertIs(is_basis(2, ["a", "a"]), False)
        self.assertIs(is_basis(2, ["a", "A"]), False)
        self.assertIs(is_basis(2, ["ab", "b"]), True)
        self.assertIs(is_basis(2, ["ab", "ba", "aB"]), True)
        self.assertIs(is_basis(2, ["ab", "ba", "aB", "abab"]), False)
        for many in range(1, 7):
            self.assertIs(is_basis(many, list("abcdef"[:many])), True)
            self.assertEqual(least_lengths(Group(many, list("abcdef"[:many]))), [1] * many)
        self.assertEqual(least_lengths(Group(1, [])), [])

    def test_great_pictures(self):
        order = [[spot + 1, spot - 1] + [spot] * 10 for spot in range(300)]
        order[0][1], order[299][0] = None, None
        group = group_of(6, order)
        self.assertEqual(len(check_quick(self, 5, basis, group)), 1500)
        self.assertEqual(check_quick(self, 5, least_lengths, group)[-1], 599)
        self.assertEqual(check_quick(self, 5, first_word, group, 299), "a" * 299)
        self.assertEqual(basis_row(group, "a" * 299 + "b" * 402 + "A" * 299), [1496] * 402)


class RowTest(unittest.TestCase):
    def test_is_row(self):
        self.assertIs(is_row(3, []), True)
        self.assertIs(is_row(0, []), True)
        self.assertIs(is_row(0, [1]), False)
        self.assertIs(is_row(3, [1, -1, 3, -3]), True)
        for value in WRONG_ROW:
            self.assertIs(is_row(3, value), False)
        self.assertIs(is_row(60, list(range(1, 61)) + list(range(-60, 0))), True)

    def test_row_word(self):
        chance = chance_of(34)
        for _ in range(150):
            many = chance.randint(1, 4)
            words = random_list(chance, many, 8, 8)
            row = random_row(chance, len(words), 12)
            self.assertEqual(row_word(many, words, row), row_says(words, row))
        self.assertEqual(row_word(2, [], []), "")
        self.assertEqual(row_word(2, ["ab"], [1, -1]), "")
        words = ["a" * (at + 1) for at in range(60)]
        self.assertEqual(row_word(1, words, [60, -59, 60]), "a" * 61)
        self.assertEqual(check_quick(self, 5, row_word, 2, ["ab" * 500], [1] * 100), "ab" * 50000)

    def test_rows_between(self):
        chance = chance_of(35)
        for _ in range(120):
            many = chance.randint(1, 4)
            sizes = [chance.randint(1, 8) for _ in range(chance.randint(0, 4))]
            words = basis(Group(many, [random_plain(chance, many, size) for size in sizes]))
            one, other = words, words
            if len(words) > 1:
                one, other = mixed_list(chance, many, words, 8, 15), mixed_list(chance, many, words, 8, 15)
            rows, back_rows = rows_between(many, one, other)
            for words, given, found, undoing in ((one, other, rows, back_rows), (other, one, back_rows, rows)):
                self.assertEqual(len(found), len(words))
                for at, (word, row) in enumerate(zip(words, found)):
                    self.assertIs(is_plain_row(row), True)
                    self.assertEqual(row_says(given, row), say(word))
                    self.assertEqual(put_in(undoing, row), [at + 1])

    def test_rows_between_loose_words(self):
        self.assertEqual(rows_between(2, ["abBB", "aAb"], ["aBbB", "Aab"]), ([[1], [2]], [[1], [2]]))
        self.assertEqual(rows_between(1, ["aAa"], ["AaA"]), ([[-1]], [[-1]]))
        self.assertEqual(rows_between(1, [], []), ([], []))

    def test_rows_between_at_the_limit(self):
        chain = ["a" + "B" * 18, "b" + "C" * 18, "c" + "D" * 18, "d"]
        for one in (["a", "b", "c", "d"], ["a", "b", "c", "d" + "a" * 56], ["a" * 57 + "d", "a", "b", "c"]):
            rows, back_rows = check_quick(self, 8, rows_between, 4, one, chain)
            self.assertEqual([row_says(chain, row) for row in rows], one)
            self.assertEqual([row_says(one, row) for row in back_rows], chain)
        led = [say("a" * at + "b" + "A" * at + ("a" * (at + 1) + "B" + "A" * (at + 1)) * 12) for at in range(3)]
        led.append("aaabAAA")
        one = ["a" * at + "b" + "A" * at for at in range(4)]
        rows, back_rows = check_quick(self, 8, rows_between, 2, one, led)
        self.assertEqual([row_says(led, row) for row in rows], one)
        self.assertEqual(len(rows[0]), 12 ** 3 + 12 ** 2 + 12 + 1)

    def test_results_belong_to_the_caller(self):
        group = Group(2, ["aa", "ab"])
        check_owned(self, basis, group)
        check_owned(self, least_lengths, group)
        check_owned(self, basis_row, group, "Ba")
        check_owned(self, rows_between, 2, ["aa", "ab"], ["Ba", "ab"])
        check_owned(self, rows_between, 2, ["a", "b"], ["a", "b"])


class WrongTest(unittest.TestCase):
    def test_wrong(self):
        group, right = (0, InvalidGroup, WRONG_GROUP), Group(2, ["aa", "ab"])
        many = (0, InvalidNumber, WRONG_MANY)
        check_wrong(self, first_word, [right, 0], [group, (1, InvalidNumber, WRONG_COUNT + [2, 10 ** 29])])
        check_wrong(self, basis, [right], [group])
        check_wrong(self, least_lengths, [right], [group])
        check_wrong(self, basis_row, [right, "aa"], [group, (1, InvalidWord, WRONG_WORD)])
        check_wrong(self, is_row, [2, []], [(0, InvalidNumber, WRONG_COUNT)])
        check_wrong(self, row_word, [2, ["a", "b", ""], [1]],
                    [many, (1, InvalidList, WRONG_WORDS), (2, InvalidRow, WRONG_ROW)])
        check_wrong(self, is_basis, [2, ["a"]], [many, (1, InvalidList, WRONG_LIST)])
        no_basis = [["a", "A"], ["aA"], ["aa", "aa"]]
        check_wrong(self, rows_between, [2, ["a"], ["A"]],
                    [many, (1, InvalidList, WRONG_LIST), (2, InvalidList, WRONG_LIST)])
        check_wrong(self, rows_between, [2, ["a"], ["A"]],
                    [(1, InvalidList, no_basis), (2, InvalidList, no_basis)])
        check_wrong(self, rows_between, [2, ["a"], ["A"]],
                    [(1, InvalidList, no_basis), (2, Unlike, [["b"], [], ["a", "b"], ["aa"]])])

    def test_order_of_errors_between(self):
        great = ["a" * 199 + "b", "b" * 199 + "a"]
        self.assertEqual(told(rows_between, 2, great, None).value, 399)
        self.assertIs(type(told(rows_between, 2, great, None)), TooMany)
        self.assertIs(type(told(rows_between, 2, ["a", "a"], great)), TooMany)
        self.assertIs(type(told(rows_between, 2, ["a", "a"], None)), InvalidList)
        self.assertIsNone(told(rows_between, 2, ["a", "a"], None).value)
        self.assertIs(type(told(is_basis, 2, great)), TooMany)

    def test_words_of_rows_are_any_words(self):
        self.assertEqual(row_word(2, ["a" * 1000], [1]), "a" * 1000)
        self.assertIs(type(told(is_basis, 2, ["a" * 201])), InvalidList)


if __name__ == "__main__":
    unittest.main()
