"""Tests of promises 54 and 55."""

import unittest

from signlanes.errors import InvalidList, InvalidMove, InvalidNumber
from signlanes.leastrows import change, is_least_paper, least, least_paper, ties
from signlanes.roundrows import is_cut, is_round_row, row_moved, row_of
from tests.helpers import (ODD, SIGNS, WRONG_MANY, chance_of, check_owned, check_quick, check_wrong, random_plain,
                           random_word)
from tests.test_roundrows import NO_CUT, WRONG_ROUND, all_cuts, all_renamings, random_cut, random_row

SQUARE = [["abA", "aBA"], ["baB", "bAB"]]


def size(row):
    """The number of signs of the words of a row."""
    return sum(map(len, row))


def slow_ties(row):
    """The ties of a row, place by place, as sorted pairs of signs."""
    found = {}
    for word in row:
        for at in range(len(word)):
            one, other = word[at], word[(at + 1) % len(word)].swapcase()
            pair = tuple(sorted([one, other], key=SIGNS.index))
            found[pair] = found.get(pair, 0) + 1
    return found


def tangled(chance, many, row, most):
    """A row to which cuts lead from a row, with at most so many signs."""
    for _ in range(60):
        longer = row_moved(many, row, random_cut(chance, many))
        if size(longer) <= most:
            row = longer
    return row


def slow_is_paper(many, row, value):
    """Whether a value of the right kinds is a least paper, by its explanation."""
    pairs = slow_ties(row)
    for letter, ways in zip("abcdef", value):
        used = {}
        if len(ways) != sum(word.lower().count(letter) for word in row):
            return False
        for way in ways:
            if way[:1] != letter or way[-1:] != letter.upper():
                return False
            for one, other in zip(way, way[1:]):
                pair = tuple(sorted([one, other], key=SIGNS.index))
                used[pair] = used.get(pair, 0) + 1
        if any(times > pairs.get(pair, 0) for pair, times in used.items()):
            return False
    return len(value) == many


class ExampleTest(unittest.TestCase):
    def test_examples(self):
        self.assertEqual([ties(2, ["aab"]), change(2, ["aab"], ("a", "aB")), change(2, ["aab"], ("a", "ab")),
                          least(2, ["aab"])[1][0] in ["a", "A", "b", "B"]],
                         [[("a", "A", 1), ("a", "B", 1), ("A", "b", 1)], -1, 1, True])
        self.assertEqual([least_paper(2, ["aab"]), is_least_paper(2, ["abAB"], SQUARE),
                          is_least_paper(2, ["abAB"], [["abA", "abA"], ["baB", "bAB"]])], [None, True, False])

    def test_names_of_arguments(self):
        self.assertEqual(ties(many=1, row=["a"]), [("a", "A", 1)])
        self.assertEqual(change(many=2, row=["ab"], cut=("a", "aB")), -1)
        self.assertEqual(least(many=1, row=["a"]), ([], ["a"]))
        self.assertEqual(least_paper(many=1, row=["a"]), [["aA"]])
        self.assertIs(is_least_paper(many=1, row=["a"], value=[["aA"]]), True)


class TieTest(unittest.TestCase):
    def test_against_slow(self):
        chance = chance_of(260)
        for _ in range(200):
            many = chance.randint(1, 6)
            row = random_row(chance, many, 12)
            expected = slow_ties(row)
            found = check_owned(self, ties, many, row)
            self.assertEqual(found, [pair + (expected[pair],)
                                     for pair in sorted(expected, key=lambda pair: list(map(SIGNS.index, pair)))])
            self.assertEqual(sum(times for _, _, times in found), size(row))

    def test_edges(self):
        self.assertEqual(ties(1, ["a"]), [("a", "A", 1)])
        self.assertEqual(ties(1, ["A", "aaa", "AA"]), [("a", "A", 6)])
        self.assertEqual(ties(2, ["ab"]), [("a", "B", 1), ("A", "b", 1)])
        self.assertEqual(ties(6, ["fF" * 0 + "F"]), [("f", "F", 1)])
        self.assertEqual(ties(3, ["aB", "aB", "cc"]), [("a", "b", 2), ("A", "B", 2), ("c", "C", 2)])

    def test_change(self):
        chance = chance_of(261)
        for many in (1, 2, 3):
            for _ in range(25):
                row = random_row(chance, many, 10)
                for cut in all_cuts(many) + all_renamings(many):
                    self.assertEqual(change(many, row, cut), size(row_moved(many, row, cut)) - size(row))
        for _ in range(150):
            many = chance.randint(4, 6)
            row, cut = random_row(chance, many, 15), random_cut(chance, many)
            self.assertEqual(change(many, row, cut), size(row_moved(many, row, cut)) - size(row))

    def test_wrong(self):
        check_wrong(self, ties, [2, ["ab"]], [(0, InvalidNumber, WRONG_MANY), (1, InvalidList, WRONG_ROUND)])
        check_wrong(self, change, [2, ["ab"], ("a", "a")],
                    [(0, InvalidNumber, WRONG_MANY), (1, InvalidList, WRONG_ROUND), (2, InvalidMove, NO_CUT)])


class LeastTest(unittest.TestCase):
    def check(self, many, row):
        """Check what is told of a row, and that its least row has a paper; the size of this is returned."""
        cuts, found = check_owned(self, least, many, row)
        at = row
        for cut in cuts:
            self.assertTrue(is_cut(many, cut) and isinstance(cut, tuple))
            self.assertLess(change(many, at, cut), 0)
            at = row_moved(many, at, cut)
        self.assertEqual(at, found)
        self.assertTrue(is_round_row(many, found))
        paper = check_owned(self, least_paper, many, found)
        self.assertIs(is_least_paper(many, found, paper), True)
        self.assertTrue(slow_is_paper(many, found, paper))
        self.assertIs(least_paper(many, row) is None, cuts != [])
        return size(found)

    def test_against_all_cuts(self):
        chance = chance_of(262)
        for many in (1, 2, 3):
            cuts = all_cuts(many)
            for _ in range(40):
                row = random_row(chance, many, 9)
                if chance.random() < 0.5:
                    row = tangled(chance, many, row, 40)
                self.check(many, row)
                can_be_less = any(change(many, row, cut) < 0 for cut in cuts)
                self.assertIs(least(many, row)[0] != [], can_be_less)
                self.assertIs(least_paper(many, row) is None, can_be_less)

    def test_least_sizes_are_the_same(self):
        chance = chance_of(263)
        for _ in range(100):
            many = chance.randint(1, 6)
            row = random_row(chance, many, 6)
            first = self.check(many, row)
            self.assertLessEqual(first, size(row))
            self.assertEqual(self.check(many, tangled(chance, many, row, 60)), first)
            self.assertEqual(self.check(many, row_moved(many, row, random_cut(chance, many))), first)

    def test_edges(self):
        self.assertEqual(least(1, ["aaa", "A"]), ([], ["aaa", "A"]))
        self.assertEqual(least(2, ["abAB"]), ([], ["abAB"]))
        self.assertEqual([size(least(2, row)[1]) for row in (["ab"], ["aab"], ["aabb"], ["abAb"], ["a", "ab"])],
                         [1, 1, 4, 4, 2])
        self.assertEqual(size(least(3, row_of(3, ["abc", "abcc", "bcc"]))[1]), 3)
        self.assertEqual(size(least(6, row_of(6, ["abcdef", "abcde", "abcd", "abc"]))[1]), 4)
        # No cut whose side has few signs makes this row less, but one with more signs does.
        row = row_of(4, ["abcdABCD" + "ab"])
        self.assertEqual(self.check(4, row), min(size(least(4, row_moved(4, row, name))[1])
                                                 for name in ("abcd", "dcba", "BdaC")))

    def test_cuts_with_sides_of_several_signs(self):
        # The words are led by one cut that has several signs in its side.
        chance = chance_of(264)
        helped = 0
        for _ in range(150):
            many = chance.randint(3, 4)
            row = row_moved(many, random_row(chance, many, 5), (SIGNS[0], "a" + "".join(
                sign for sign in SIGNS[2:2 * many] if chance.random() < 0.5)))
            small = [(sign, "".join(sorted(sign + other, key=SIGNS.index))) for sign in SIGNS[:2 * many]
                     for other in SIGNS[:2 * many] if other.lower() != sign.lower()]
            cuts, _ = least(many, row)
            if cuts and not any(change(many, row, cut) < 0 for cut in small):
                helped += 1
            self.check(many, row)
        self.assertGreater(helped, 0)

    def test_limits(self):
        chance = chance_of(265)
        for many, most in ((1, 200), (2, 200), (3, 200), (4, 60), (5, 60), (6, 60)):
            for count in (1, 4):
                row = row_of(many, [random_plain(chance, many, most // count) for _ in range(count)])
                cuts, found = check_quick(self, 5, least, many, row)
                paper = check_quick(self, 5, least_paper, many, found)
                self.assertIs(check_quick(self, 5, is_least_paper, many, found, paper), True)
                row = tangled(chance, many, row_of(many, ["ab"[:many]] * count), most)
                self.assertEqual(size(check_quick(self, 5, least, many, row)[1]), count if many > 1 else size(row))
        row = row_of(2, ["a" + "b" * 199])
        self.assertEqual(size(check_quick(self, 5, least, 2, row)[1]), 1)
        # Greater rows are rows, too.
        row = row_of(6, [random_word(chance, 6, 1000) for _ in range(4)])
        check_quick(self, 10, least, 6, row)

    def test_wrong(self):
        for call in (least, least_paper):
            check_wrong(self, call, [2, ["ab"]], [(0, InvalidNumber, WRONG_MANY), (1, InvalidList, WRONG_ROUND)])


class LeastPaperTest(unittest.TestCase):
    def test_bent_papers(self):
        chance = chance_of(266)
        wrong_ones = 0
        for _ in range(150):
            many = chance.randint(1, 4)
            _, row = least(many, random_row(chance, many, 9))
            paper = least_paper(many, row)
            for bent in self.bent(chance, many, paper):
                right = slow_is_paper(many, row, bent)
                self.assertIs(is_least_paper(many, row, bent), right)
                wrong_ones += not right
        self.assertGreater(wrong_ones, 500)

    def bent(self, chance, many, paper):
        """Papers with one thing bent."""
        letter = chance.choice([at for at in range(many) if paper[at]])
        at = chance.randrange(len(paper[letter]))
        way = paper[letter][at]
        sign = chance.choice(SIGNS[:2 * many])
        middle = chance.randrange(1, len(way))
        for ways in (paper[letter][:at] + paper[letter][at + 1:], paper[letter] + [way], paper[letter][::-1],
                     paper[letter][:at] + [way[::-1]] + paper[letter][at + 1:],
                     paper[letter][:at] + [way[:-1]] + paper[letter][at + 1:],
                     paper[letter][:at] + [way[1:]] + paper[letter][at + 1:],
                     paper[letter][:at] + [way[:middle] + sign + way[middle:]] + paper[letter][at + 1:],
                     paper[letter][:at] + [way[0] + way[-1]] + paper[letter][at + 1:],
                     [way] * len(paper[letter]), []):
            yield paper[:letter] + [ways] + paper[letter + 1:]
        for sign in SIGNS[:2 * many]:
            detour = way[:middle] + sign + way[middle - 1:]
            yield paper[:letter] + [paper[letter][:at] + [detour] + paper[letter][at + 1:]] + paper[letter + 1:]
        yield paper[1:] + paper[:1]
        yield paper[:-1]
        yield paper + [[]]

    def test_ways_in_the_bounds_of_ties(self):
        row = ["abAB"]
        for value, right in ((SQUARE, True), ([SQUARE[0][::-1], SQUARE[1]], True), ([SQUARE[0], SQUARE[0]], False),
                             ([["abA", "aBA"], ["baB"]], False), ([["abA", "aBA"], ["baB", "bAB", "bAB"]], False),
                             ([["ABa", "aBA"], ["baB", "bAB"]], False), ([["aA", "aBA"], ["baB", "bAB"]], False),
                             ([["abaBA", "aBA"], ["baB", "bAB"]], False), ([["abABA", "aBA"], ["baB", "bAB"]], False),
                             ([["", "aBA"], ["baB", "bAB"]], False), ([["a", "aBA"], ["baB", "bAB"]], False)):
            self.assertIs(is_least_paper(2, row, value), right)
        # A way may go to a sign and back again, if there are ties for both directions together.
        for row, way, right in ((["abAB", "bb"], "abBbA", True), (["abAB", "b"], "abBbA", False),
                                (["abAB", "bb"], "abBbBA", False), (["abAB", "bbb"], "abBbBbA", False),
                                (["abAB", "bb", "bb"], "abBbBbA", True), (["abAB", "b"], "abBA", False)):
            ways = ["baB", "bAB"] + ["bB"] * (size(row) - 4)
            self.assertIs(is_least_paper(2, row, [[way, "aBA"], ways]), right)
        for ways, right in ((["abBbA", "aBA"], True), (["aBA", "abBbA"], True), (["aBbBA", "abA"], True),
                            (["aBbBA", "abBbA"], False)):
            self.assertIs(is_least_paper(2, ["abAB", "bb"], [ways, ["baB", "bAB", "bB", "bB"]]), right)
        self.assertIs(is_least_paper(2, ["abAB", "bb"], [["abBA", "aBbA"], ["baB", "bAB", "bB", "bB"]]), True)
        # A way may come to a sign twice, as long as there are ties.
        row = ["aabAB"]
        for ways in (["aA", "abA", "aBA"], ["aA", "aBA", "abA"]):
            self.assertIs(is_least_paper(2, row, [ways, ["baB", "bAB"]]), True)
        self.assertIs(is_least_paper(2, row, [["aA", "aBA", "abA"], ["bAaB", "baB"]]), False)
        self.assertIs(is_least_paper(2, ["aabAB"], [["aA", "abA", "aBA"], ["baAB", "bAaB"]]), False)
        self.assertIs(is_least_paper(2, ["aaaabAB"], [["aA", "aA", "aA", "abA", "aBA"], ["baAaAB", "bAB"]]), False)
        self.assertIs(is_least_paper(2, ["aaaabAB"], [["aA", "aA", "aA", "abA", "aBA"], ["baAB", "bAB"]]), False)
        self.assertIs(is_least_paper(2, ["a", "b"], [["aA"], ["bB"]]), True)
        self.assertIs(is_least_paper(3, ["a", "b"], [["aA"], ["bB"], []]), True)
        self.assertIs(is_least_paper(3, ["a", "b"], [["aA"], ["bB"], ["cC"]]), False)
        self.assertIs(is_least_paper(1, ["aaa"], [["aA", "aA", "aA"]]), True)
        self.assertIs(is_least_paper(1, ["aaa"], [["aAaA", "aA", "aA"]]), False)
        self.assertIs(is_least_paper(1, ["aaa"], [["aAaAaA"]]), False)

    def test_no_papers(self):
        for value in ODD + [0, "", "abA", tuple(SQUARE), [tuple(ways) for ways in SQUARE], SQUARE[0], [SQUARE], [[], []],
                            [["abA", None], ["baB", "bAB"]], [["abA", ["aBA"]], ["baB", "bAB"]],
                            [["abA", 1], ["baB", "bAB"]], [["abA", "aBA"], None], [["abA", "acA"], ["baB", "bAB"]],
                            [["abA", ("a", "B", "A")], ["baB", "bAB"]], ["abAaBA", "baBbAB"], SQUARE + [[]],
                            {0: SQUARE[0], 1: SQUARE[1]}, [["abA", "aB A"], ["baB", "bAB"]]]:
            self.assertIs(is_least_paper(2, ["abAB"], value), False)
        # A row that is not least has no paper.
        self.assertIs(is_least_paper(2, ["aab"], [["aA", "aBA"], ["bAB"]]), False)

    def test_wrong(self):
        check_wrong(self, is_least_paper, [2, ["abAB"], SQUARE],
                    [(0, InvalidNumber, WRONG_MANY), (1, InvalidList, WRONG_ROUND)])


if __name__ == "__main__":
    unittest.main()
