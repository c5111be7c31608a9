"""Tests of promises 52 and 53."""

import itertools
import unittest

from signlanes.errors import InvalidList, InvalidMove, InvalidNumber, TooLong
from signlanes.lettermaps import LetterMap, composed, image, map_back
from signlanes.roundrows import is_cut, is_round_row, letter_images, row_moved, row_of, undoing
from signlanes.turns import first_turn, hair_and_ring
from tests.helpers import (ODD, SIGNS, WRONG_MANY, WRONG_WORDS, back, chance_of, check_error, check_owned, check_quick,
                           check_wrong, pasted, place, random_plain, random_word, say, told)

# For two letters.
WRONG_WORD_LISTS = WRONG_WORDS + [[], [""], ["a", "aA"], ["a"] * 5, ["abBA"], ["a", "b", "a", "b", ""]]
WRONG_ROUND = WRONG_WORD_LISTS + [["ba"], ["aB", "Ba"], ["abA"], ["aab", "aba"], ["A", "b", "ab", "Aa"], ["bB"],
                                  ["a", "Abab"], ["BA"], ["ab", None]]
NO_CUT = ODD + [0, "", "a", "ab ", "aa", "aA", "abc", "ba" * 2, "bc", "ac", "b", ["a", "aB"], ("a",), ("a", "a", "a"),
                ("a", ""), ("a", "b"), ("a", "A"), ("a", "aA"), ("a", "Aab"), ("a", "ba"), ("a", "aBb"), ("a", "aa"),
                ("a", "abb"), ("a", "aC"), ("a", "ac"), ("c", "ac"), ("c", "c"), ("ab", "ab"), ("", "a"), ("", ""),
                ("a", None), (None, "a"), ("a", ["a"]), (["a"], "a"), ("a", 1), ("A", "a"), ("b", "aAB"), ("B", "bB"),
                [("a", "aB")], ("a", "aB", 1), "a b", "Aa", "bB", ("a", "a "), ("a", "aB" * 500)]


def all_cuts(many):
    """All cuts, by trying all sides."""
    found = []
    for sign in SIGNS[:2 * many]:
        others = [other for other in SIGNS[:2 * many] if other.lower() != sign.lower()]
        for size in range(len(others) + 1):
            for side in itertools.combinations(others, size):
                found.append((sign, "".join(sorted(side + (sign,), key=SIGNS.index))))
    return found


def all_renamings(many):
    """All renamings, by trying all orders and cases."""
    letters = "abcdef"[:many]
    return ["".join(letter.upper() if turned else letter for letter, turned in zip(order, turns))
            for order in itertools.permutations(letters) for turns in itertools.product((False, True), repeat=many)]


def slow_parts(many, cut):
    """What the letters become by a cut or a renaming, read from its explanation."""
    if isinstance(cut, str):
        return list(cut)
    sign, side = cut
    return [letter if letter == sign.lower() else
            (back(sign) if letter.upper() in side else "") + letter + (sign if letter in side else "")
            for letter in "abcdef"[:many]]


def slow_ring(word):
    """The first turn of the ring of what a word says."""
    word = say(word)
    while len(word) > 1 and word[0] == word[-1].swapcase():
        word = word[1:-1]
    return min((word[at:] + word[:at] for at in range(len(word))), key=place)


def random_row(chance, many, most):
    """A row of round words."""
    words = []
    while len(words) < chance.randint(1, 4):
        word = random_word(chance, many, chance.randint(1, most))
        if say(word):
            words.append(slow_ring(word))
    return words[:4]


def random_cut(chance, many):
    """A cut, or now and then a renaming."""
    if chance.random() < 0.2:
        letters = list("abcdef"[:many])
        chance.shuffle(letters)
        return "".join(chance.choice([letter, letter.upper()]) for letter in letters)
    sign = chance.choice(SIGNS[:2 * many])
    side = [other for other in SIGNS[:2 * many] if other == sign or other != sign.swapcase() and chance.random() < 0.5]
    return sign, "".join(side)


class ExampleTest(unittest.TestCase):
    def test_examples(self):
        self.assertEqual([row_of(2, ["abA", "bAab"]), is_round_row(2, ["ba"]), is_round_row(2, ["ab", "aB"]),
                          undoing(2, ("a", "aB")), undoing(2, "bA")],
                         [["b", "bb"], False, True, ("A", "AB"), "Ba"])
        self.assertEqual([row_moved(2, ["aab"], ("a", "aB")), row_moved(2, ["aab"], "Ba"),
                          letter_images(2, [("a", "aB"), ("a", "aB")]), letter_images(2, ["bA", ("a", "aB")])],
                         [["ab"], ["aBB"], ["a", "AAb"], ["Ab", "A"]])

    def test_names_of_arguments(self):
        self.assertIs(is_round_row(many=2, value=["ab"]), True)
        self.assertEqual(row_of(many=2, words=["ba"]), ["ab"])
        self.assertIs(is_cut(many=2, value="ba"), True)
        self.assertEqual(row_moved(many=2, row=["ab"], cut="ba"), ["ab"])
        self.assertEqual(undoing(many=2, cut=("b", "b")), ("B", "B"))
        self.assertEqual(letter_images(many=2, cuts=[]), ["a", "b"])


class RoundRowTest(unittest.TestCase):
    def test_against_slow(self):
        chance = chance_of(250)
        for _ in range(300):
            many = chance.randint(1, 6)
            words = [random_word(chance, many, chance.randint(1, 9)) for _ in range(chance.randint(1, 4))]
            if not all(say(word) for word in words):
                self.assertIs(type(told(row_of, many, words)), InvalidList)
                self.assertIs(is_round_row(many, words), False)
                continue
            found = check_owned(self, row_of, many, words)
            self.assertEqual(found, [slow_ring(word) for word in words])
            self.assertEqual(found, [first_turn(many, word) for word in words])
            self.assertIs(is_round_row(many, found), True)
            self.assertIs(is_round_row(many, words), words == found)
            self.assertEqual(row_of(many, found), found)

    def test_words_of_two_signs_and_three(self):
        for size in (1, 2, 3):
            for signs in itertools.product("aAbB", repeat=size):
                word = "".join(signs)
                round_word = say(word * 2) == word * 2
                turns = [word[at:] + word[:at] for at in range(size)]
                self.assertIs(is_round_row(2, [word]), round_word and min(turns, key=place) == word)

    def test_sizes(self):
        self.assertIs(is_round_row(1, ["a"]), True)
        self.assertIs(is_round_row(1, ["a", "A", "aa", "a"]), True)
        self.assertIs(is_round_row(1, ["a", "A", "aa", "a", "a"]), False)
        self.assertIs(is_round_row(1, []), False)
        self.assertIs(is_round_row(6, ["F", "abcdef", "aA" * 0 + "e", "f" * 1000]), True)
        self.assertIs(is_round_row(6, ["f" * 1001]), False)
        for value in WRONG_ROUND:
            self.assertIs(is_round_row(2, value), False)

    def test_long_hairs(self):
        hair = "ab" * 249
        self.assertEqual(row_of(2, [hair + "ba" + back(hair), "bB" * 400 + "A"]), ["ab", "A"])
        self.assertEqual(hair_and_ring(2, hair + "bA" + back(hair))[1], "bA")
        chance = chance_of(251)
        words = [random_plain(chance, 6, 1000) for _ in range(4)]
        found = check_quick(self, 5, row_of, 6, words)
        self.assertEqual(found, [slow_ring(word) for word in words])

    def test_wrong(self):
        check_wrong(self, is_round_row, [2, ["a"]], [(0, InvalidNumber, WRONG_MANY)])
        check_wrong(self, row_of, [2, ["a"]], [(0, InvalidNumber, WRONG_MANY), (1, InvalidList, WRONG_WORD_LISTS)])


class CutTest(unittest.TestCase):
    def test_all_cuts(self):
        for many in (1, 2, 3):
            cuts, renamings = all_cuts(many), all_renamings(many)
            self.assertEqual((len(cuts), len(renamings)), (2 * many * 4 ** (many - 1), (2, 8, 48)[many - 1]))
            for cut in cuts + renamings:
                self.assertIs(is_cut(many, cut), True)
                self.assertIs(is_cut(many + 1, cut), not isinstance(cut, str))
            for size in range(many + 2):
                for signs in itertools.product(SIGNS[:2 * many + 2], repeat=size):
                    value = "".join(signs)
                    self.assertIs(is_cut(many, value), value in renamings)
        self.assertIs(is_cut(6, "FEDCBA"), True)
        self.assertIs(is_cut(6, ("f", "abcdef")), True)
        self.assertIs(is_cut(6, ("F", "aAbBcCdDeEF")), True)

    def test_no_cuts(self):
        for value in NO_CUT:
            self.assertIs(is_cut(2, value), False)
            check_error(self, undoing, [2, value], InvalidMove, value)
            check_error(self, row_moved, [2, ["ab"], value], InvalidMove, value)

    def test_rows_moved(self):
        chance = chance_of(252)
        for _ in range(300):
            many = chance.randint(1, 6)
            row, cut = random_row(chance, many, 9), random_cut(chance, many)
            found = check_owned(self, row_moved, many, row, cut)
            parts = slow_parts(many, cut)
            self.assertEqual(found, [slow_ring(pasted(parts, word)) for word in row])
            self.assertIs(is_round_row(many, found), True)
            behind = undoing(many, cut)
            self.assertIs(is_cut(many, behind), True)
            self.assertEqual(undoing(many, behind), cut)
            self.assertEqual(row_moved(many, found, behind), row)
            # Turns of a word are led to turns of one word.
            word = random_plain(chance, many, 5)
            self.assertEqual(row_moved(many, row_of(many, [row[0]]), cut),
                             row_of(many, [word + pasted(parts, row[0]) + back(word)]))

    def test_undoing(self):
        for many in (1, 2, 3):
            for cut in all_cuts(many) + all_renamings(many):
                behind = undoing(many, cut)
                parts = slow_parts(many, behind)
                self.assertEqual([pasted(parts, word) for word in slow_parts(many, cut)], list("abc"[:many]))
        self.assertEqual(undoing(3, ("B", "aBc")), ("b", "abc"))
        self.assertEqual(undoing(4, "cAdB"), "BDac")

    def test_long_words(self):
        chance = chance_of(253)
        row = row_of(6, [random_plain(chance, 6, 1000) for _ in range(4)])
        for cut in (("a", "abBcCdDeEfF"), ("F", "aAbBcCdDeEF"), "bcdefa"):
            found = check_quick(self, 5, row_moved, 6, row, cut)
            self.assertEqual(found, [slow_ring(pasted(slow_parts(6, cut), word)) for word in row])
        self.assertEqual(row_moved(2, ["b" * 1000], ("a", "ab")), [slow_ring("ba" * 1000)])
        self.assertEqual(row_moved(2, ["b" * 1000], ("a", "abB")), ["b" * 1000])

    def test_wrong(self):
        check_wrong(self, is_cut, [2, ("a", "a")], [(0, InvalidNumber, WRONG_MANY)])
        check_wrong(self, row_moved, [2, ["ab"], ("a", "a")],
                    [(0, InvalidNumber, WRONG_MANY), (1, InvalidList, WRONG_ROUND), (2, InvalidMove, NO_CUT)])
        check_wrong(self, undoing, [2, ("a", "a")], [(0, InvalidNumber, WRONG_MANY), (1, InvalidMove, NO_CUT)])


class LetterImageTest(unittest.TestCase):
    def test_against_slow(self):
        chance = chance_of(254)
        for _ in range(150):
            many = chance.randint(1, 6)
            cuts = [random_cut(chance, many) for _ in range(chance.randint(0, 6))]
            words = list("abcdef"[:many])
            for cut in cuts:
                words = [pasted(slow_parts(many, cut), word) for word in words]
            found = check_owned(self, letter_images, many, cuts)
            self.assertEqual(found, words)
            back_cuts = [undoing(many, cut) for cut in cuts[::-1]]
            self.assertEqual(letter_images(many, cuts + back_cuts), list("abcdef"[:many]))
            # The list is a map of letters that can be undone.
            lettermap = LetterMap(many, letter_images(many, cuts[:3]))
            self.assertEqual(map_back(lettermap), LetterMap(many, letter_images(many, [undoing(many, cut)
                                                                                      for cut in cuts[:3][::-1]])))
            row = random_row(chance, many, 6)
            moved = row
            for cut in cuts[:3]:
                moved = row_moved(many, moved, cut)
            self.assertEqual(moved, row_of(many, [image(lettermap, word) for word in row]))
            for cut in cuts[3:4]:
                self.assertEqual(composed(lettermap, LetterMap(many, letter_images(many, [cut]))).words(),
                                 letter_images(many, cuts[:4]))

    def test_long_images(self):
        grow = [("a", "ab"), ("b", "ab")]
        size, words = 0, ["a", "b"]
        while True:
            cut = grow[size % 2]
            words = [pasted(slow_parts(2, cut), word) for word in words]
            size += 1
            if max(map(len, words)) > 1000:
                break
            self.assertEqual(letter_images(2, [grow[at % 2] for at in range(size)]), words)
        cuts = [grow[at % 2] for at in range(size)]
        first = next(len(word) for word in words if len(word) > 1000)
        error = told(letter_images, 2, cuts)
        self.assertEqual((type(error), error.value), (TooLong, first))
        # What is too long on the way is told, also if it would be short again behind it.
        undo = [undoing(2, cut) for cut in cuts[::-1]]
        self.assertEqual(told(letter_images, 2, cuts + undo).value, first)
        self.assertEqual(letter_images(2, cuts[:-1] + undo[1:]), ["a", "b"])
        self.assertEqual(letter_images(2, [("a", "ab")] * 999), ["a", "b" + "a" * 999])
        self.assertEqual(told(letter_images, 2, [("a", "ab")] * 1000).value, 1001)
        # Of several words behind one cut the first letter's is told.
        both = [("a", "abc")] * 999
        self.assertEqual(letter_images(3, both)[1:], ["b" + "a" * 999, "c" + "a" * 999])
        self.assertEqual(told(letter_images, 3, both + [("b", "aBbc"[:1] + "bc")]).value, 1999)
        self.assertEqual(told(letter_images, 3, both + ["cba", ("a", "abc")]).value, 2000)

    def test_long_lists(self):
        cuts = [("a", "aB"), ("A", "AB")] * 3000 + ["bA", "Ba"] * 1000
        self.assertEqual(check_quick(self, 5, letter_images, 2, cuts), ["a", "b"])

    def test_wrong(self):
        wrong = [value for value in NO_CUT if not isinstance(value, list)]
        lists = [[("a", "a"), value] for value in wrong] + [(("a", "a"),), [["a", "aB"]], "ba", None, ("a", "aB")]
        check_wrong(self, letter_images, [2, []], [(0, InvalidNumber, WRONG_MANY), (1, InvalidList, lists)])


if __name__ == "__main__":
    unittest.main()
