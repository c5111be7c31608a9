"""Tests of promise 13."""

import unittest

from signlanes.errors import InvalidFold, InvalidList, InvalidNumber, InvalidSketch
from signlanes.folding import folded, folds, is_folds, rounds
from signlanes.groups import Group
from tests.helpers import (ODD, WRONG_LIST, WRONG_MANY, chance_of, check_owned, check_quick, check_wrong, mixed_list,
                           random_list, random_plain, say, slow_fold, slow_rows, told)


def slow_rounds(words):
    """The rounds of a list, found lane by lane."""
    lanes, spots = set(), 1
    for word in words:
        said = say(word)
        passed = [0] + [spots + step for step in range(len(said) - 1)] + [0]
        spots += max(0, len(said) - 1)
        for at, sign in enumerate(said):
            one, other = passed[at], passed[at + 1]
            lanes.add((one, sign, other) if sign.islower() else (other, sign.lower(), one))
    return (spots, sorted(lanes))


def slow_folds_of(sketch):
    """All folds of a sketch."""
    ends = {}
    for one, letter, other in sketch[1]:
        ends.setdefault((one, letter), set()).add(other)
        ends.setdefault((other, letter.upper()), set()).add(one)
    return {(low, high) for found in ends.values() for low in found for high in found if low < high}


def slow_folded(sketch, fold):
    """What a fold leads to, spot by spot."""
    def moved(spot):
        return fold[0] if spot == fold[1] else spot - (spot > fold[1])
    return (sketch[0] - 1, sorted({(moved(one), letter, moved(other)) for one, letter, other in sketch[1]}))


def slow_is_folds(words, value):
    """Whether folds lead to a sketch without one."""
    sketch = slow_rounds(words)
    for fold in value:
        if fold not in slow_folds_of(sketch):
            return False
        sketch = slow_folded(sketch, fold)
    return not slow_folds_of(sketch)


class ExampleTest(unittest.TestCase):
    def test_examples(self):
        self.assertEqual([rounds(2, ["ab", "aB"]), folded(rounds(2, ["ab", "aB"]), (1, 2)),
                          is_folds(2, ["ab", "aB"], [(1, 2)]), is_folds(2, ["ab", "aB"], [])],
                         [(3, [(0, "a", 1), (0, "a", 2), (0, "b", 2), (1, "b", 0)]),
                          (2, [(0, "a", 1), (0, "b", 1), (1, "b", 0)]), True, False])

    def test_names_of_arguments(self):
        self.assertEqual(rounds(many=1, words=["a"]), (1, [(0, "a", 0)]))
        self.assertEqual(folded(sketch=(2, [(0, "a", 0), (0, "a", 1)]), fold=(0, 1)), (1, [(0, "a", 0)]))
        self.assertEqual(folds(many=1, words=["a"]), [])
        self.assertIs(is_folds(many=1, words=["a"], value=[]), True)


class RoundsTest(unittest.TestCase):
    def test_against_slow(self):
        chance = chance_of(11)
        for _ in range(200):
            many = chance.randint(1, 6)
            words = random_list(chance, many, 6, 8)
            self.assertEqual(rounds(many, words), slow_rounds(words))

    def test_edges(self):
        self.assertEqual(rounds(1, []), (1, []))
        self.assertEqual(rounds(2, ["", "aA"]), (1, []))
        self.assertEqual(rounds(2, ["a", "A", "a"]), (1, [(0, "a", 0)]))
        self.assertEqual(rounds(2, ["AB"]), (2, [(0, "b", 1), (1, "a", 0)]))
        self.assertEqual(rounds(2, ["ab"] * 12)[0], 13)
        self.assertEqual(rounds(2, ["a" * 200] * 12)[0], 2389)
        self.assertEqual(rounds(2, ["aBbb"]), (2, [(0, "a", 1), (1, "b", 0)]))


class FoldedTest(unittest.TestCase):
    def test_against_slow(self):
        chance = chance_of(12)
        for _ in range(200):
            spots = chance.randint(1, 6)
            lanes = sorted({(chance.randrange(spots), chance.choice("abf"), chance.randrange(spots))
                            for _ in range(chance.randint(0, 8))})
            sketch = (spots, lanes)
            right = slow_folds_of(sketch)
            for kept in range(-1, spots + 1):
                for gone in range(-1, spots + 1):
                    if (kept, gone) in right:
                        self.assertEqual(folded(sketch, (kept, gone)), slow_folded(sketch, (kept, gone)))
                    else:
                        error = told(folded, sketch, (kept, gone))
                        self.assertIs(type(error), InvalidFold)
                        self.assertEqual(error.value, (kept, gone))

    def test_wrong_sketches(self):
        lane = (0, "a", 1)
        for value in ODD + [0, "a", [], (2,), (2, [], []), [2, [lane]], (2, (lane,)), (2, [list(lane)]), (0, []),
                            (-1, []), (True, []), ("2", []), (None, []), (2501, []), (2, [lane, lane]),
                            (2, [(1, "a", 0), lane]), (2, [(0, "b", 1), lane]), (2, [(0, "A", 1)]),
                            (2, [(0, "g", 1)]), (2, [(0, "", 1)]), (2, [(0, "ab", 1)]), (2, [(0, 1, 1)]),
                            (2, [(0, None, 1)]), (2, [(0, "a", 2)]), (2, [(2, "a", 0)]), (2, [(-1, "a", 0)]),
                            (2, [(False, "a", 1)]), (2, [(0, "a", True)]), (2, [(0, "a", None)]), (2, [(0, "a")]),
                            (2, [(0, "a", 1, 1)]), (2, [None]), (2, None), (2, "a"), (2, {}), (2, [[lane]])]:
            for fold in ((0, 1), None):
                error = told(folded, value, fold)
                self.assertIs(type(error), InvalidSketch, value)
                self.assertIs(error.value, value)

    def test_wrong_folds(self):
        sketch = (3, [(0, "a", 1), (0, "a", 2), (1, "b", 0)])
        self.assertEqual(folded(sketch, (1, 2)), (2, [(0, "a", 1), (1, "b", 0)]))
        for value in ODD + [0, "a", [1, 2], (1,), (1, 2, 2), (2, 1), (1, 1), (0, 1), (True, 2), (1, 2.0), (1, "2"),
                            (None, 2), (1, None), (1, 3), (-1, 2), ((1, 2),)]:
            error = told(folded, sketch, value)
            self.assertIs(type(error), InvalidFold, value)
            self.assertIs(error.value, value)

    def test_loops_and_two_lanes(self):
        self.assertEqual(folded((2, [(0, "a", 0), (0, "a", 1)]), (0, 1)), (1, [(0, "a", 0)]))
        self.assertEqual(folded((2, [(0, "a", 0), (1, "a", 0)]), (0, 1)), (1, [(0, "a", 0)]))
        self.assertEqual(folded((2, [(0, "a", 1), (1, "a", 1)]), (0, 1)), (1, [(0, "a", 0)]))
        self.assertIs(type(told(folded, (2, [(0, "a", 1), (1, "b", 0)]), (0, 1))), InvalidFold)
        self.assertIs(type(told(folded, (2, [(0, "a", 1), (1, "a", 0)]), (0, 1))), InvalidFold)

    def test_great_sketches(self):
        lanes = [(0, "a", spot) for spot in range(2500)]
        result = check_quick(self, 2, folded, (2500, lanes), (0, 2499))
        self.assertEqual(result, (2499, lanes[:-1]))
        lanes = [(spot, letter, end) for spot in range(2500) for letter in "abcdef" for end in range(3)]
        self.assertEqual(check_quick(self, 5, folded, (2500, lanes), (0, 1))[0], 2499)

    def test_results_belong_to_the_caller(self):
        check_owned(self, rounds, 2, ["ab", "aB"])
        check_owned(self, folded, rounds(2, ["ab", "aB"]), (1, 2))
        check_owned(self, folds, 2, ["ab", "aB"])


class FoldsTest(unittest.TestCase):
    def check_list(self, many, words):
        found = folds(many, words)
        self.assertIsInstance(found, list)
        sketch = rounds(many, words)
        for fold in found:
            sketch = folded(sketch, fold)
        self.assertEqual(slow_folds_of(sketch), set())
        self.assertEqual(sketch[0], len(Group(many, words).picture()))
        self.assertIsNone(slow_fold(sketch[1]))
        self.assertEqual(slow_rows(many, sketch[1]), Group(many, words).picture())
        self.assertIs(is_folds(many, words, found), True)
        return found

    def test_found_folds(self):
        chance = chance_of(13)
        for _ in range(150):
            many = chance.randint(1, 4)
            words = random_list(chance, many, 5, 8)
            self.check_list(many, words)
        for _ in range(60):
            words = mixed_list(chance, 2, ["aa", "b", "aba", "Ab"][:chance.randint(2, 4)], 10, 40)
            self.check_list(2, words + [""])

    def test_bent_folds(self):
        chance = chance_of(14)
        for _ in range(60):
            words = mixed_list(chance, 2, ["aa", "b", "aba"], 6, 12)
            found = folds(2, words)
            for at in range(len(found)):
                kept, gone = found[at]
                for other in ((kept, gone + 1), (kept + 1, gone), (gone, kept), (kept, kept), (kept - 1, gone)):
                    bent = found[:at] + [other] + found[at + 1:]
                    self.assertIs(is_folds(2, words, bent), slow_is_folds(words, bent), (words, bent))
                self.assertIs(is_folds(2, words, found[:at] + found[at + 1:]),
                              slow_is_folds(words, found[:at] + found[at + 1:]))
                for other in ([kept, gone], (kept,), (kept, gone, gone), None, (kept, None), (str(kept), gone)):
                    self.assertIs(is_folds(2, words, found[:at] + [other] + found[at + 1:]), False)
            self.assertIs(is_folds(2, words, found + [(0, 1)]), False)
            if found:
                self.assertIs(is_folds(2, words, found[:-1]), False)
                self.assertIs(is_folds(2, words, tuple(found)), False)

    def test_booleans_are_no_spots(self):
        words = ["a", "aa"]
        self.assertEqual(folds(1, words), [(0, 1)])
        self.assertIs(is_folds(1, words, [(0, 1)]), True)
        self.assertIs(is_folds(1, words, [(0, True)]), False)
        self.assertIs(is_folds(1, words, [(False, 1)]), False)

    def test_any_value(self):
        for value in ODD + [0, "a", ("a",), [0], [(0, 1), None], ((1, 2),)]:
            self.assertIs(is_folds(2, ["ab", "aB"], value), False)
        self.assertIs(is_folds(2, ["ab"], []), True)
        self.assertIs(is_folds(2, ["ab"], ()), False)
        self.assertIs(is_folds(2, [], []), True)

    def test_other_orders(self):
        words = ["aab", "aab", "aab"]
        self.assertIs(is_folds(2, words, [(1, 3), (1, 4), (2, 3), (2, 3)]), True)
        self.assertIs(is_folds(2, words, [(2, 4), (2, 5), (1, 3), (1, 3)]), True)
        self.assertIs(is_folds(2, words, [(1, 3), (1, 4), (2, 3)]), False)

    def test_600_signs(self):
        for words in (["a" * 200, "a" * 199, "a" * 198], ["ab" * 100, "ab" * 99, "ab" * 97 + "abab"],
                      ["a" * 100 + "b" + "A" * 99] * 3, ["a" * 50] * 12):
            many = 2
            found = check_quick(self, 5, folds, many, words)
            self.assertIs(check_quick(self, 5, is_folds, many, words, found), True)
            self.assertIs(is_folds(many, words, found[:-1]), False)
        chance = chance_of(15)
        words = [random_plain(chance, 2, 50) for _ in range(12)]
        self.assertIs(is_folds(2, words, check_quick(self, 5, folds, 2, words)), True)


class WrongTest(unittest.TestCase):
    def test_wrong(self):
        many = (0, InvalidNumber, WRONG_MANY)
        words = (1, InvalidList, WRONG_LIST)
        check_wrong(self, rounds, [2, ["a"]], [many, words])
        check_wrong(self, folds, [2, ["a"]], [many, words])
        check_wrong(self, is_folds, [2, ["a"], []], [many, words])

    def test_no_too_many(self):
        words = ["a" * 199 + "b", "b" * 199 + "a"]
        self.assertEqual(rounds(2, words)[0], 399)
        self.assertIs(is_folds(2, words, folds(2, words)), True)


if __name__ == "__main__":
    unittest.main()
