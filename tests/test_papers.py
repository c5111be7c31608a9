"""Tests of promise 14."""

import unittest

from signlanes.errors import InvalidList, InvalidNumber, InvalidPaper, InvalidWord, TooMany
from signlanes.groups import Group
from signlanes.papers import is_paper, paper, said
from tests.helpers import (ODD, WRONG_LIST, WRONG_MANY, WRONG_WORD, back, chance_of, check_owned, check_quick,
                           check_wrong, mixed_list, random_list, random_plain, random_word, say, slow_member, told)

BENT_PAPERS = ODD + [
    0, "a", ((),), [()], [[0]], [[(0,)]], [[(0, 1, 1)]], [[[0, 1]]], [[(0, 0)]], [[(0, 2)]], [[(0, -2)]], [[(-1, 1)]],
    [[(2, 1)]], [[(0, 1)], [(3, 1)]], [[(True, 1)]], [[(False, 1)]], [[(0, True)]], [[(0, None)]], [[("0", 1)]],
    [[(0, "1")]], [[(None, 1)]], [[(0, 1)] * 13], [[(10 ** 29, 1)]], [[], None], [None], [["ab"]], [[(0, 1)], (0, 1)],
]


def slow_said(words, steps):
    """What steps say."""
    known = [say(word) for word in words]
    for step in steps:
        known.append(say("".join(known[number] if side == 1 else back(known[number]) for number, side in step)))
    return known[len(words):]


def led_by(count, sign):
    """A sign led by so many signs."""
    return "a" * count + sign + "A" * count


class PaperCase(unittest.TestCase):
    def check_found(self, many, words, word):
        found = check_quick(self, 8, paper, many, words, word)
        self.assertIsNotNone(found)
        self.assertLessEqual(len(found), 20000)
        steps = said(many, words, found)
        self.assertEqual(steps[-1] if steps else "", say(word))
        self.assertIs(is_paper(many, words, word, found), True)
        known = [say(given) for given in words] + steps
        self.assertLessEqual(sum(len(known[number]) for step in found for number, _ in step), 1000000)
        return found


class ExampleTest(unittest.TestCase):
    def test_examples(self):
        self.assertEqual([said(2, ["ab", "aB"], [[(0, 1), (1, -1)], [(2, 1), (2, 1)]]),
                          is_paper(2, ["ab", "aB"], "abbA", [[(0, 1), (1, -1)]]), paper(2, ["aa", "bb"], "ab"),
                          is_paper(2, ["aa"], "aaaa", paper(2, ["aa"], "aaaa"))],
                         [["abbA", "abbbbA"], True, None, True])

    def test_names_of_arguments(self):
        self.assertEqual(said(many=1, words=["a"], paper=[[(0, 1)]]), ["a"])
        self.assertEqual(paper(many=1, words=["aa"], word="a"), None)
        self.assertIs(is_paper(many=1, words=["a"], word="a", value=[[(0, 1)]]), True)


class SaidTest(unittest.TestCase):
    def test_against_slow(self):
        chance = chance_of(20)
        for _ in range(150):
            many = chance.randint(1, 4)
            words = random_list(chance, many, 5, 6)
            steps = []
            for at in range(chance.randint(0, 5)):
                if words:
                    steps.append([(chance.randrange(len(words) + at), chance.choice((1, -1)))
                                  for _ in range(chance.randint(0, 4))])
            right = slow_said(words, steps)
            self.assertEqual(said(many, words, steps), right)
            word = right[-1] if right else ""
            self.assertIs(is_paper(many, words, word, steps), True)
            self.assertIs(is_paper(many, words, word + "aA", steps), True)
            self.assertIs(is_paper(many, words, say(word + "a"), steps), False)

    def test_no_steps_and_no_items(self):
        self.assertEqual(said(2, ["ab"], []), [])
        self.assertEqual(said(2, [], []), [])
        self.assertEqual(said(2, [], [[], [(0, 1), (0, -1)]]), ["", ""])
        self.assertIs(is_paper(2, [], "", []), True)
        self.assertIs(is_paper(2, [], "aA", [[]]), True)
        self.assertIs(is_paper(2, ["ab"], "ab", []), False)

    def test_number_of_items(self):
        self.assertEqual(said(1, ["a"], [[(0, 1)] * 12]), ["a" * 12])
        self.assertIs(type(told(said, 1, ["a"], [[(0, 1)] * 13])), InvalidPaper)
        self.assertIs(is_paper(1, ["a"], "a" * 13, [[(0, 1)] * 13]), False)

    def test_10000_signs(self):
        words = ["a" * 200, "b"]
        steps = [[(0, 1)] * 10, [(2, 1)] * 5]
        self.assertEqual(said(2, words, steps)[-1], "a" * 10000)
        self.assertEqual(said(2, words, steps + [[(3, 1), (3, -1), (1, 1)]])[-1], "b")
        self.assertEqual(said(2, words, steps + [[(3, 1), (3, 1), (3, -1)]])[-1], "a" * 10000)
        self.assertIs(type(told(said, 2, words, steps + [[(3, 1), (1, 1)]])), InvalidPaper)
        self.assertIs(is_paper(2, words, "b", steps + [[(3, 1), (1, 1)], [(1, 1)]]), False)
        self.assertIs(is_paper(2, words, "b", steps + [[(3, 1)], [(1, 1)]]), True)

    def test_no_papers(self):
        for value in BENT_PAPERS:
            error = told(said, 2, ["ab", "aB"], value)
            self.assertIs(type(error), InvalidPaper, value)
            self.assertIs(error.value, value)
            self.assertIs(is_paper(2, ["ab", "aB"], "ab", value), False)

    def test_many_steps(self):
        steps = [[(0, 1)]] + [[(at, 1), (0, 1), (0, -1)] for at in range(1, 20000)]
        result = check_quick(self, 8, said, 1, ["a" * 16], steps)
        self.assertEqual(result, ["a" * 16] * 20000)
        self.assertIs(check_quick(self, 8, is_paper, 1, ["a" * 16], "a" * 16, steps), True)
        self.assertIs(is_paper(1, ["a" * 16], "a", steps), False)
        steps = [[(0, 1)] * 10, [(1, 1)] * 5] + [[(2, 1)] for _ in range(100)]
        self.assertEqual(check_quick(self, 8, said, 1, ["a" * 200], steps)[-1], "a" * 10000)


class FoundTest(PaperCase):
    def test_found_papers(self):
        chance = chance_of(21)
        for _ in range(150):
            many = chance.randint(1, 4)
            words = random_list(chance, many, 5, 8)
            rows = Group(many, words).picture()
            for _ in range(4):
                word = random_word(chance, many, chance.randint(0, 6))
                if slow_member(rows, word):
                    self.check_found(many, words, word)
                else:
                    self.assertIsNone(paper(many, words, word))
            made = "".join(chance.choice((part, back(part))) for part in (chance.choices(words, k=6) if words else []))
            self.check_found(many, words, made)
            for word in words:
                self.check_found(many, words, word)

    def test_mixed_lists(self):
        chance = chance_of(22)
        for _ in range(12):
            many = chance.randint(1, 3)
            first = [random_plain(chance, many, chance.randint(1, 8)) for _ in range(chance.randint(1, 5))]
            words = mixed_list(chance, many, first + first[:1] * (12 - len(first)), 120, 200)
            for word in first:
                self.check_found(many, words, word)
            long = say("".join(chance.choice((part, back(part))) for part in chance.choices(first, k=100)))
            self.check_found(many, words, long)

    def test_products_far_too_long_for_items(self):
        for times in (2, 20, 176):
            words = [say(led_by(at, "b") + led_by(at + 1, "B") * times) for at in range(11)] + [led_by(11, "b")]
            self.assertLessEqual(max(map(len, words)), 200)
            for word in ("b", led_by(5, "b"), "b" * 1000, "a" * 11 + "bb" + "A" * 11):
                self.check_found(2, words, word)
            self.check_found(2, words[::-1], "bb")
            self.assertIsNone(paper(2, words, "a"))
        letters = ["a" + "B" * 199, "b" + "C" * 199, "c" + "D" * 199, "d" + "E" * 199, "e" + "F" * 199, "f"]
        for word in ("a", "abcdef" * 166, "a" * 1000):
            self.check_found(6, letters, word)

    def test_roots_of_powers(self):
        self.check_found(1, ["a" * 199, "a" * 200], "a")
        self.check_found(1, ["a" * 144, "a" * 89], "a" * 1000)
        self.check_found(2, ["ab" * 100, "BA" * 99], "ab" * 500)
        self.check_found(2, ["aab" * 50, "aab" * 21], "aab")
        self.check_found(2, ["b" + "a" * 99 + "B", "b" + "a" * 100 + "B"], "baB")
        self.check_found(1, ["a" * 120, "a" * 168, "a" * 180], "a" * 12)
        self.assertIsNone(paper(1, ["a" * 120, "a" * 168, "a" * 180], "a" * 6))

    def test_edges(self):
        self.assertEqual(paper(2, [], ""), [])
        self.assertEqual(paper(2, ["", "aA"], "bB"), [])
        self.assertIsNone(paper(2, [], "a"))
        self.check_found(2, ["a", "a", "A", "", "aA", "ab", "ab"], "bbb")
        self.check_found(1, ["a"] * 12, "a" * 1000)
        for many in range(1, 7):
            letters = list("ABCDEF"[:many])
            self.check_found(many, letters, "abcdef"[:many] * (1000 // many))

    def test_results_belong_to_the_caller(self):
        check_owned(self, paper, 2, ["ab", "aB"], "abbAabbAab" * 10)
        check_owned(self, said, 2, ["ab", "aB"], [[(0, 1)], [(2, 1)]])
        words = ["ab" * 10, "ab" * 9]
        self.assertEqual(paper(2, words, "ab" * 40), paper(2, list(words), "ab" * 40))


class WrongTest(unittest.TestCase):
    def test_wrong(self):
        many = (0, InvalidNumber, WRONG_MANY)
        words = (1, InvalidList, WRONG_LIST)
        word = (2, InvalidWord, WRONG_WORD)
        check_wrong(self, said, [2, ["ab", "aB"], []], [many, words, (2, InvalidPaper, BENT_PAPERS)])
        check_wrong(self, paper, [2, ["ab", "aB"], "ab"], [many, words, word])
        check_wrong(self, is_paper, [2, ["ab", "aB"], "ab", []], [many, words, word])

    def test_too_many(self):
        words = ["a" * 199 + "b", "b" * 199 + "a"]
        for word in ("a", None):
            error = told(paper, 2, words, word)
            self.assertIs(type(error), TooMany)
            self.assertEqual(error.value, 399)
        self.assertEqual(said(2, words, [[(0, 1)]]), words[:1])
        self.assertIs(is_paper(2, words, words[1], [[(1, 1)]]), True)

    def test_any_value(self):
        for value in ODD:
            self.assertIs(is_paper(2, [], "", value), False)


if __name__ == "__main__":
    unittest.main()
