"""Tests of promise 24."""

import unittest

from signlanes.bases import basis
from signlanes.classes import how_many_classes
from signlanes.errors import InvalidGroup, InvalidList, InvalidWord, TooMany
from signlanes.filling import filled, filled_basis
from signlanes.groups import Group, belongs, group_of, is_picture
from signlanes.pictures import picture_rows
from tests.helpers import (SIGNS, WRONG_GROUP, WRONG_WORDS, chance_of, check_error, check_owned, check_quick,
                           check_wrong, full_picture, random_group, random_plain, random_word, say, slow_rows, told)


def slow_filled(group, words):
    """The picture of the filled group and the words of the lanes put in, by tables with names of spots."""
    many, lanes, ways = group.many(), {}, {0: ""}
    for spot, row in enumerate(group.picture()):
        for sign, end in zip(SIGNS, row):
            if end is not None:
                lanes[spot, sign] = end
                ways.setdefault(end, ways[spot] + sign)
    count = len(group.picture())
    for word in words:
        at = 0
        for sign in say(word):
            if (at, sign) not in lanes:
                lanes[at, sign], lanes[count, sign.swapcase()] = count, at
                ways[count] = ways[at] + sign
                count += 1
            at = lanes[at, sign]
    found = []
    for letter in "abcdef"[:many]:
        ends = [spot for spot in range(count) if (spot, letter.upper()) not in lanes]
        for spot in range(count):
            if (spot, letter) not in lanes:
                end = ends.pop(0)
                lanes[spot, letter] = end
                found.append(ways[spot] + letter + say("".join(reversed(ways[end])).swapcase()))
    return slow_rows(many, {(spot, sign, end) for (spot, sign), end in lanes.items() if sign.islower()}), found


class ExampleTest(unittest.TestCase):
    def test_examples(self):
        half, ring = Group(2, ["aa", "b", "abA"]), Group(2, ["ab"])
        third = filled(ring, ["b"])
        self.assertEqual([third.picture(), belongs(third, "ab"), belongs(third, "b"), filled(half, []) == half,
                          filled_basis(ring, ["b"])],
                         [[[1, 1, 2, 1], [0, 0, 0, 2], [2, 2, 1, 0]], True, False, True, ["aa", "baB", "bbA"]])

    def test_names_of_arguments(self):
        self.assertEqual(filled(group=Group(1, []), words=["a"]), Group(1, ["aa"]))
        self.assertEqual(filled_basis(group=Group(1, []), words=["a"]), ["aa"])


class FillingTest(unittest.TestCase):
    def check_filled(self, group, words):
        many = group.many()
        full = filled(group, words)
        picture, found = slow_filled(group, words)
        self.assertEqual(full.picture(), picture)
        self.assertTrue(is_picture(many, full.picture()))
        self.assertEqual(how_many_classes(full), len(picture))
        self.assertTrue(all(belongs(full, word) for word in basis(group)))
        self.assertFalse(any(belongs(full, word) for word in words))
        self.assertEqual(check_owned(self, filled_basis, group, words), found)
        self.assertTrue(all(say(word) == word for word in found))
        self.assertEqual(len(found), len(picture) * (many - 1) + 1 - group.rank())
        self.assertEqual(picture_rows(many, basis(group) + found), picture)
        self.assertEqual(full.rank() - 1, len(picture) * (many - 1))

    def test_against_slow(self):
        chance = chance_of(80)
        for many in (1, 2, 3, 6):
            for _ in range(60):
                group = random_group(chance, many, 3, 5)
                words = [random_word(chance, many, chance.randint(0, 6)) for _ in range(chance.randint(0, 5))]
                self.check_filled(group, [word for word in words if not belongs(group, word)])

    def test_no_word(self):
        chance = chance_of(81)
        self.assertEqual(filled(Group(2, []), []), Group(2, ["a", "b"]))
        self.assertEqual(filled_basis(Group(2, []), []), ["a", "b"])
        self.assertEqual(filled(Group(2, ["abA"]), []).picture(), [[1, 1, 0, 0], [0, 0, 1, 1]])
        for many, spots in ((1, 5), (3, 20), (6, 300)):
            group = group_of(many, full_picture(chance, many, spots))
            self.assertEqual(filled(group, []), group)
            self.assertEqual(filled_basis(group, []), [])

    def test_shared_ways(self):
        for words in (["ab", "abb", "abA", "ab"], ["b", "bb", "bbb"], ["aab", "aabAB"]):
            self.check_filled(Group(2, ["ba"]), [word for word in words if not belongs(Group(2, ["ba"]), word)])
        self.assertEqual(len(filled(Group(1, []), ["aaa", "a", "aa"]).picture()), 4)

    def test_three_hundred_spots(self):
        for size, group in ((299, Group(2, [])), (299, Group(1, [])), (298, Group(2, ["ab"]))):
            word = ("B" if group.many() == 2 else "A") * size
            self.assertEqual(len(check_quick(self, 5, filled, group, [word]).picture()),
                             size + len(group.picture()) - (group.rank() > 0))
            self.check_filled(group, [word])
        for size, count in ((300, 301), (500, 501), (1000, 1001)):
            for call in (filled, filled_basis):
                error = told(call, Group(2, []), ["a" * size])
                self.assertEqual((type(error), error.value), (TooMany, count))
        chance = chance_of(82)
        words = [random_plain(chance, 6, 1000) for _ in range(12)]
        error = told(filled, Group(6, []), words)
        self.assertIs(type(error), TooMany)
        self.assertEqual(error.value, len({word[:size] for word in words for size in range(1001)}))
        error = told(filled, group_of(2, full_picture(chance, 2, 300)), [])
        self.assertIsNone(error)

    def test_words_of_the_group(self):
        group = Group(2, ["aa", "b"])
        for words, first in ((["aa"], "aa"), (["a", "bB"], "bB"), (["", "aa"], ""), (["ab", "baabB", "b"], "baabB"),
                             (["a"] * 11 + ["bAA"], "bAA"), (["a" * 999 + "b", "bb"], "bb")):
            words = [word + "" for word in words]
            for call in (filled, filled_basis):
                check_error(self, call, [group, words], InvalidWord, words[words.index(first)])
        for word in ("", "aA"):
            check_error(self, filled, [Group(2, []), [word]], InvalidWord, word)
        # What belongs is told ahead of how many spots there are.
        check_error(self, filled, [group, ["a" * 999, "b"]], InvalidWord, "b")

    def test_wrong(self):
        wrong = WRONG_WORDS + [["a"] * 13, ["aA"] * 13]
        for call in (filled, filled_basis):
            check_wrong(self, call, [Group(2, ["aa"]), ["a"]],
                        [(0, InvalidGroup, WRONG_GROUP), (1, InvalidList, wrong)])
        # A word of more than 200 signs is a word.
        self.assertEqual(len(filled(Group(1, []), ["a" * 299]).picture()), 300)

    def test_changes_behind_the_call(self):
        words = ["a"]
        full = filled(Group(2, ["bb"]), words)
        words.append("b")
        words[0] = "bb"
        self.assertEqual(full, filled(Group(2, ["bb"]), ["a"]))


if __name__ == "__main__":
    unittest.main()
