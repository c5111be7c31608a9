"""Tests of promises 50 and 51."""

import unittest

from signlanes.bases import least_lengths
from signlanes.chains import chain, collapse, is_chain, least_row, level
from signlanes.errors import InvalidList, InvalidMap, InvalidNumber, InvalidWord, TooLong, Unlike
from signlanes.groups import Group, belongs
from signlanes.lettermaps import LetterMap, image, is_one_to_one, is_onto, map_back
from signlanes.moves import moved
from tests.helpers import (SIGNS, WRONG_MANY, WRONG_MAP, WRONG_WORD, back, chance_of, check_error, check_owned,
                           check_quick, check_wrong, mixed_list, place, plain_words, random_list, random_plain,
                           random_word, say, told)
from tests.test_moves import NO_MOVE, WRONG_ROW

TWICE = LetterMap(2, ["aa", "b"])
NO_LIST = [value for value in NO_MOVE if not isinstance(value, list)]


def slow_level(word):
    """What stands for the level of what a word says, in Python's order."""
    word = say(word)
    half = (len(word) + 1) // 2
    first, second = sorted([place(word[:half]), place(back(word)[:half])])
    return len(word), first, second


def slow_least(many, words):
    """The least row, by its explanation: word by word in the order of levels."""
    found, group = [], Group(many, words)
    longest = max(least_lengths(group), default=0)
    members = [word for word in plain_words(many, longest) if word and belongs(group, word)]
    for word in sorted(members, key=lambda word: (slow_level(word), place(word))):
        if not belongs(Group(many, found), word):
            found.append(word)
    return found + [""] * (len(words) - len(found))


def after(many, words, moves):
    """The row behind moves, and the number of signs of the longest word on the way."""
    row, longest = [say(word) for word in words], 0
    for move in moves:
        if isinstance(told(moved, many, row, move), TooLong):
            return None, 1001
        row = moved(many, row, move)
        longest = max(longest, max(map(len, row)))
    return row, longest


def random_rows(chance, many, size, most):
    """Two rows of one group with as many words and at most so many signs together."""
    base = random_list(chance, many, min(4, size), 6)[:size]
    base += [""] * (size - len(base))
    rows = []
    while len(rows) < 2:
        row = mixed_list(chance, many, base, chance.randint(0, 40), chance.randint(4, 40)) if base else []
        chance.shuffle(row)
        if sum(map(len, row)) <= most:
            rows.append(row)
    return rows


class ExampleTest(unittest.TestCase):
    def test_examples(self):
        self.assertEqual([level(2, "abA"), least_row(2, ["aab", "b", "bb"]), least_row(2, ["ab", "bb"])],
                         [(3, "ab", "aB"), ["b", "aa", ""], ["aB", "ab"]])
        self.assertEqual([is_chain(2, ["ab", "b"], ["a", "b"], [("opposite", 1), ("times", 0, 1), ("opposite", 1)]),
                          chain(2, ["ab", "b"], ["aa", "b"]), chain(2, [], []), collapse(TWICE)], [True, None, [], None])

    def test_names_of_arguments(self):
        self.assertEqual(level(many=2, word="a"), (1, "a", "A"))
        self.assertEqual(least_row(many=2, words=["A"]), ["a"])
        moves = chain(many=2, one=["A"], other=["a"])
        self.assertIs(is_chain(many=2, one=["A"], other=["a"], value=moves), True)
        self.assertEqual(collapse(lettermap=LetterMap(1, [""])), [])


class LevelTest(unittest.TestCase):
    def test_levels(self):
        for word, expected in (("", (0, "", "")), ("a", (1, "a", "A")), ("A", (1, "a", "A")), ("aa", (2, "a", "A")),
                               ("ab", (2, "a", "B")), ("BA", (2, "a", "B")), ("Ba", (2, "A", "B")),
                               ("aab", (3, "aa", "BA")), ("BAA", (3, "aa", "BA")), ("abAB", (4, "ab", "ba")),
                               ("aabBA", (1, "a", "A")), ("aA", (0, "", "")), ("a" * 999, (999, "a" * 500, "A" * 500)),
                               ("B" * 1000, (1000, "b" * 500, "B" * 500))):
            self.assertEqual(level(2, word), expected)

    def test_equal_levels(self):
        chance = chance_of(230)
        for many, most in ((1, 5), (2, 4), (3, 3)):
            words = plain_words(many, most)
            levels = {}
            for word in words:
                found = level(many, word)
                self.assertEqual((found[0], place(found[1]), place(found[2])), slow_level(word))
                levels.setdefault(found, []).append(word)
            for found in levels.values():
                self.assertEqual(sorted(found), sorted({found[0], back(found[0])}))
        word = random_plain(chance, 6, 40)
        self.assertEqual(level(6, "cC" + word + "Ff"), level(6, back(word)))

    def test_wrong(self):
        check_wrong(self, level, [2, "a"], [(0, InvalidNumber, WRONG_MANY), (1, InvalidWord, WRONG_WORD)])


class LeastRowTest(unittest.TestCase):
    def test_against_slow(self):
        chance = chance_of(231)
        ranks = set()
        for many, most in ((1, 8), (2, 6), (3, 4)):
            for _ in range(60):
                words = random_list(chance, many, 4, most)
                found = least_row(many, words)
                self.assertEqual(found, slow_least(many, words))
                full = [word for word in found if word]
                self.assertEqual(len(full), Group(many, words).rank())
                self.assertEqual([len(word) for word in full], least_lengths(Group(many, words)))
                self.assertEqual(Group(many, full), Group(many, words))
                ranks.add(len(full))
        self.assertGreater(len(ranks), 3)

    def test_edges(self):
        self.assertEqual(least_row(1, []), [])
        self.assertEqual(least_row(6, ["", "aA", "fF"]), ["", "", ""])
        self.assertEqual(least_row(2, ["b", "b", "B", "bb", ""]), ["b", "", "", "", ""])
        self.assertEqual(least_row(1, ["a" * 6, "a" * 4]), ["aa", ""])
        self.assertEqual(least_row(2, ["BA"]), ["ab"])
        self.assertEqual(least_row(2, ["aa", "ab", "ba", "bb", "aB"] + [""] * 7), ["aa", "aB", "ab"] + [""] * 9)
        self.assertEqual(least_row(6, list("FEDCBA")), list("abcdef"))
        self.assertEqual(check_owned(self, least_row, 2, ["ba", "a"]), ["a", "b"])

    def test_rows_of_one_group(self):
        chance = chance_of(232)
        for _ in range(150):
            many, size = chance.randint(1, 4), chance.randint(1, 12)
            one, other = random_rows(chance, many, size, 200)
            self.assertEqual(least_row(many, one), least_row(many, other))
            self.assertEqual(least_row(many, least_row(many, one)), least_row(many, one))
            bent = one[:-1] + [random_word(chance, many, 5)]
            self.assertIs(least_row(many, bent) == least_row(many, one), Group(many, bent) == Group(many, one))

    def test_no_word_is_made_of_lesser_ones(self):
        chance = chance_of(233)
        for _ in range(60):
            words = least_row(2, random_list(chance, 2, 4, 7))
            levels = [slow_level(word) for word in words if word]
            self.assertEqual(levels, sorted(levels))
            for word in words:
                self.assertTrue(place(word) <= place(back(word)))
            for at in range(len(levels)):
                self.assertFalse(belongs(Group(2, words[:at]), words[at]))

    def test_limits(self):
        chance = chance_of(234)
        for sizes in ([200], [100, 100], [17] * 11 + [13], [50, 150]):
            words = [random_plain(chance, 3, size) for size in sizes]
            found = check_quick(self, 3, least_row, 3, words)
            self.assertEqual(sum(map(bool, found)), Group(3, words[:len(sizes)]).rank())

    def test_wrong(self):
        check_wrong(self, least_row, [2, ["a"]], [(0, InvalidNumber, WRONG_MANY), (1, InvalidList, WRONG_ROW)])


class ChainTest(unittest.TestCase):
    def check(self, many, one, other):
        """Check the chain of two rows of one group, both ways."""
        for left, right in ((one, other), (other, one)):
            found = check_owned(self, chain, many, left, right)
            self.assertIs(is_chain(many, left, right, found), True)
            row, longest = after(many, left, found)
            self.assertEqual(row, [say(word) for word in right])
            self.assertLessEqual(longest, 1000)
        return found

    def test_rows_of_one_group(self):
        chance = chance_of(235)
        for _ in range(150):
            many, size = chance.randint(1, 5), chance.randint(0, 12)
            one, other = random_rows(chance, many, size, 200)
            self.check(many, one, other)
            self.check(many, one, least_row(many, one))

    def test_rows_of_unlike_groups(self):
        chance = chance_of(236)
        found_none = 0
        for _ in range(150):
            many, size = chance.randint(1, 3), chance.randint(1, 4)
            one, other = random_rows(chance, many, size, 200)
            other[chance.randrange(size)] = random_word(chance, many, 4)
            found = chain(many, one, other)
            self.assertIs(found is None, Group(many, one) != Group(many, other))
            self.assertIs(found is None, least_row(many, one) != least_row(many, other))
            found_none += found is None
            if found is not None:
                self.assertTrue(is_chain(many, one, other, found))
        self.assertGreater(found_none, 50)

    def test_edges(self):
        self.assertEqual(chain(6, [], []), [])
        self.assertEqual(chain(2, ["ab", "b"], ["ab", "b"]), [])
        self.assertEqual(chain(2, ["abB", "b"], ["a", "aAb"]), [])
        for one, other in ((["a", "b"], ["b", "a"]), (["a", "b", ""], ["", "b", "a"]), (["a"], ["A"]), ([""], ["aA"]),
                           (["a", "a"], ["a", ""]), (["a", "A"], ["", "A"]), (["a" * 60, "a" * 84], ["a" * 12, "A" * 12]),
                           (["ab", "ba", "aa"], ["aa", "aB", "ab"]), ([""] * 12, ["bB"] * 12), (["abA"], ["aBA"])):
            self.check(2, one, other)
        self.assertIsNone(chain(2, ["ab"], ["ba"]))
        self.assertIsNone(chain(2, [""], ["a"]))
        self.assertIsNone(chain(2, ["a", "b"], ["a", "bb"]))

    def test_limits(self):
        chance = chance_of(237)
        for words in ([["a" * 100, "a" * 100], ["a" * 100, ""]], [["a" * 101, "a" * 99], ["a", ""]],
                      [["a" * 199, "a"], ["a", "a" * 199]], [["ab" * 40, "ab" * 39 + "a"], ["a" + "ba" * 39, "B"]],
                      [["a" * 16] * 12, ["a" * 16] + [""] * 11]):
            found = check_quick(self, 5, chain, 2, *words)
            self.assertTrue(check_quick(self, 5, is_chain, 2, *words, found))
        for size in (2, 3, 6, 12):
            words = [random_plain(chance, 2, 200 // size) for _ in range(size)]
            least = least_row(2, words)
            found = check_quick(self, 5, chain, 2, least, words)
            self.assertTrue(is_chain(2, least, words, found))
            half = 100 // size
            parts = [random_plain(chance, 2, half) for _ in range(4)]
            words = [say(chance.choice(parts) + back(chance.choice(parts))) for _ in range(size)]
            found = check_quick(self, 5, chain, 2, words, least_row(2, words))
            self.assertTrue(is_chain(2, words, least_row(2, words), found))

    def test_wrong(self):
        unlike = [[], ["a"], ["a", "b", ""], [""] * 12]
        kinds = [(0, InvalidNumber, WRONG_MANY), (1, InvalidList, WRONG_ROW), (2, InvalidList, WRONG_ROW),
                 (2, Unlike, unlike)]
        check_wrong(self, chain, [2, ["a", "b"], ["ab", "b"]], kinds)
        check_wrong(self, is_chain, [2, ["a", "b"], ["ab", "b"], []], kinds)
        other = ["a"]
        check_error(self, is_chain, [2, [], other, None], Unlike, other)


class IsChainTest(unittest.TestCase):
    def test_bent_chains(self):
        chance = chance_of(238)
        for _ in range(60):
            many, size = chance.randint(1, 3), chance.randint(2, 5)
            one, other = random_rows(chance, many, size, 120)
            moves = chain(many, one, other)
            row = [say(word) for word in other]
            for at in range(len(moves)):
                short = moves[:at] + moves[at + 1:]
                self.assertIs(is_chain(many, one, other, short), after(many, one, short)[0] == row)
                self.assertIs(is_chain(many, one, other, moves[:at]), after(many, one, moves[:at])[0] == row)
            more = moves + [("exchange", 0, 1)]
            self.assertIs(is_chain(many, one, other, more), row[0] == row[1])
            middle = len(moves) // 2
            for wrong in NO_MOVE[:12] + [("times", size, 0), ("opposite", size), ("exchange", 1, True)]:
                self.assertIs(is_chain(many, one, other, moves[:middle] + [wrong] + moves[middle:]), False)
            self.assertIs(is_chain(many, one, other, tuple(moves)), False)

    def test_no_lists(self):
        for value in NO_LIST:
            self.assertIs(is_chain(2, ["a", "b"], ["a", "b"], value), False)
        self.assertIs(is_chain(2, ["a", "b"], ["a", "bB" + "b"], []), True)
        self.assertIs(is_chain(2, ["a", "b"], ["b", "a"], []), False)
        self.assertIs(is_chain(2, [], [], []), True)
        self.assertIs(is_chain(2, [], [], [("opposite", 0)]), False)
        self.assertIs(is_chain(2, ["a", "b"], ["b", "a"], ["exchange", 0, 1]), False)

    def test_long_words_on_the_way(self):
        # Doing and undoing what makes a word of just so many signs.
        many = [("times", 0, 1)] * 8
        undo = [("opposite", 1)] + many + [("opposite", 1)]
        self.assertIs(is_chain(1, ["a" * 200, "a" * 100], ["a" * 200, "a" * 100], many + undo), True)
        self.assertIs(is_chain(1, ["a" * 201, "a" * 100], ["a" * 201, "a" * 100], many + undo), False)
        self.assertIs(is_chain(1, ["a" * 1000, "b"[:0]], ["a" * 1000, ""], [("times", 1, 0), ("times", 1, 0)]), False)


class CollapseTest(unittest.TestCase):
    def test_against_maps(self):
        chance = chance_of(239)
        collapsed = 0
        for _ in range(200):
            many, into = chance.randint(1, 6), chance.randint(1, 3)
            words = random_list(chance, into, many, 6)[:many] + [""] * many
            lettermap = LetterMap(into, mixed_list(chance, into, words[:many], 10, 25) if many > 1 else words[:1])
            if sum(map(len, lettermap.words())) > 200:
                continue
            found = check_owned(self, collapse, lettermap)
            self.assertIs(found is None, is_one_to_one(lettermap))
            if found is not None:
                row, longest = after(into, lettermap.words(), found)
                self.assertIn("", row)
                self.assertLessEqual(longest, 1000)
                self.check_letters(lettermap, found)
                collapsed += 1
        self.assertGreater(collapsed, 80)

    def check_letters(self, lettermap, moves):
        """Check what the moves make of the letters: no empty word, but one with the empty image."""
        row = list("abcdef"[:lettermap.many()])
        for move in moves:
            if move[0] == "times":
                row[move[1]] = say(row[move[1]] + row[move[2]])
            elif move[0] == "opposite":
                row[move[1]] = back(row[move[1]])
            else:
                row[move[1]], row[move[2]] = row[move[2]], row[move[1]]
        self.assertNotIn("", row)
        if max(map(len, row)) <= 1000:
            parts = [say("".join(lettermap.words()[SIGNS.index(sign) // 2] if sign.islower() else
                                 back(lettermap.words()[SIGNS.index(sign) // 2]) for sign in word)) for word in row]
            self.assertIn("", parts)

    def test_edges(self):
        self.assertEqual(collapse(LetterMap(2, ["ab", "aA"])), [])
        self.assertIsNone(collapse(LetterMap(1, ["a" * 200])))
        for words in (["a", "a"], ["a", "A"], ["aa", "aaa"], ["ab", "ba", "aa", "b"], ["a" * 100, "a" * 99],
                      ["a" * 34] * 5 + ["a" * 21], ["abAB", "abAB" * 3, "b"]):
            lettermap = LetterMap(2, words)
            found = check_quick(self, 3, collapse, lettermap)
            self.assertIn("", after(2, lettermap.words(), found)[0])

    def test_maps_that_can_be_undone(self):
        chance = chance_of(240)
        for _ in range(60):
            many = chance.randint(1, 4)
            letters = list("abcdef"[:many])
            words = mixed_list(chance, many, letters, 12, 20) if many > 1 else ["A"]
            if chance.random() < 0.5:
                words[0] = random_plain(chance, many, 3)
            lettermap = LetterMap(many, words)
            found = chain(many, lettermap.words(), letters)
            self.assertIs(found is not None, is_onto(lettermap) and is_one_to_one(lettermap))
            self.assertIs(found is not None, map_back(lettermap) is not None)
            if found is not None:
                self.assertEqual([image(lettermap, word) for word in map_back(lettermap).words()], letters)

    def test_wrong(self):
        check_wrong(self, collapse, [TWICE], [(0, InvalidMap, WRONG_MAP)])


if __name__ == "__main__":
    unittest.main()
