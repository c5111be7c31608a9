"""Tests of promises 10, 11 and 12."""

import unittest

from signlanes.errors import InvalidGroup, InvalidList, InvalidNumber, InvalidPicture, InvalidWord, TooMany, Unlike
from signlanes.groups import Group, belongs, group_of, is_picture, parting_word, way
from tests.helpers import (ODD, WRONG_GROUP, WRONG_LIST, WRONG_MANY, WRONG_WORD, back, chance_of, check_owned,
                           check_quick, check_wrong, mixed_list, plain_words, random_list, random_plain, random_word,
                           say, slow_member, slow_picture, spoil, told)


def ring_of(many, spots):
    """The picture with so many spots, in which each letter leads to the next spot."""
    forward = [(spot + 1) % spots for spot in range(spots)]
    numbers, order = {0: 0}, [0]
    for spot in order:
        for end in (forward[spot], (spot - 1) % spots):
            if end not in numbers:
                numbers[end] = len(order)
                order.append(end)
    return [[numbers[end] for end in (forward[spot], (spot - 1) % spots)] * many for spot in order]


class ExampleTest(unittest.TestCase):
    def test_examples(self):
        even, hair = Group(2, ["aa", "bb", "ab"]), Group(2, ["abA"])
        self.assertEqual([even.picture(), even.rank(), hair.picture(), hair.rank(),
                          even == Group(2, ["ab", "aB", "ba"]), Group(2, []).picture()],
                         [[[1, 1, 1, 1], [0, 0, 0, 0]], 3, [[1, None, None, None], [None, 0, 1, 1]], 1, True,
                          [[None, None, None, None]]])
        self.assertEqual([way(hair, "abbB"), way(hair, "ba"), belongs(hair, "abbA"), belongs(hair, "ab"),
                          parting_word(Group(1, ["aa"]), Group(1, ["aaa"])), parting_word(even, even)],
                         [[0, 1, 1], [0], True, False, "aa", None])
        self.assertEqual([is_picture(2, [[1, None, None, None], [None, 0, None, None]]),
                          is_picture(1, [[1, 2], [2, 0], [0, 1]]),
                          group_of(1, [[1, 2], [2, 0], [0, 1]]) == Group(1, ["aaa"])], [False, True, True])

    def test_names_of_arguments(self):
        group = Group(many=1, words=["aa"])
        self.assertEqual(group.many(), 1)
        self.assertIs(is_picture(many=1, value=group.picture()), True)
        self.assertEqual(group_of(many=1, picture=group.picture()), group)
        self.assertEqual(way(group=group, word="a"), [0, 1])
        self.assertIs(belongs(group=group, word="a"), False)
        self.assertEqual(parting_word(one=group, other=Group(1, [])), "aa")

    def test_methods_stand_in_the_class(self):
        for name in ("many", "rank", "picture"):
            self.assertIn(name, vars(Group))


class GroupTest(unittest.TestCase):
    def test_pictures_against_slow(self):
        chance = chance_of(4)
        for _ in range(400):
            many = chance.randint(1, 6)
            words = random_list(chance, many, 5, 8)
            group = Group(many, words)
            rows = slow_picture(many, words)
            self.assertEqual(group.picture(), rows, (many, words))
            self.assertEqual(group.many(), many)
            lanes = sum(row[sign] is not None for row in rows for sign in range(0, 2 * many, 2))
            self.assertEqual(group.rank(), lanes - len(rows) + 1)
            self.assertIs(is_picture(many, rows), True)
            self.assertEqual(group_of(many, rows), group)

    def test_same_group_from_other_lists(self):
        chance = chance_of(5)
        for _ in range(200):
            many = chance.randint(1, 4)
            words = random_list(chance, many, 5, 8) or ["a"]
            other = mixed_list(chance, many, words, 12, 100) + ["", words[0], back(words[-1])]
            self.assertEqual(Group(many, other), Group(many, words))

    def test_products_belong(self):
        chance = chance_of(6)
        for _ in range(100):
            many = chance.randint(1, 4)
            words = random_list(chance, many, 4, 6) or [""]
            group = Group(many, words)
            picks = [chance.choice(words) for _ in range(chance.randint(0, 6))]
            made = "".join(chance.choice([pick, back(pick)]) for pick in picks)
            self.assertIs(belongs(group, made), True)
            self.assertEqual(way(group, made)[-1], 0)

    def test_no_other_words_belong(self):
        for words in (["aa", "bb"], ["abA", "bb"], ["ab", "ba"], ["aab"], [], ["aaa", "aabA"], ["abAB", "b"]):
            group = Group(2, words)
            made = {""}
            for _ in range(6):
                made |= {say(one + part) for one in made for word in words for part in (word, back(word))
                         if len(say(one + part)) <= 12}
            for word in plain_words(2, 5):
                self.assertIs(belongs(group, word), word in made, (words, word))

    def test_equality(self):
        self.assertEqual(Group(2, []), Group(2, ["", "aA"]))
        self.assertNotEqual(Group(1, []), Group(2, []))
        self.assertNotEqual(Group(1, ["a"]), Group(2, ["a"]))
        self.assertNotEqual(Group(1, ["a"]), Group(1, ["aa"]))
        self.assertEqual(Group(1, ["a"]), Group(1, ["A", "aaaa"]))
        self.assertIs(Group(1, ["a"]) == [[0, 0]], False)
        self.assertIs(Group(1, ["a"]) != Group(1, ["A"]), False)
        for value in ODD[:-3]:
            self.assertIs(Group(1, ["a"]) == value, False)

    def test_each_number_of_letters(self):
        for many in range(1, 7):
            letters = list("abcdef"[:many])
            self.assertEqual(Group(many, letters).picture(), [[0] * (2 * many)])
            self.assertEqual(Group(many, letters).rank(), many)
            self.assertEqual(Group(many, []).picture(), [[None] * (2 * many)])
            self.assertEqual(Group(many, []).rank(), 0)

    def test_bounds_of_lists(self):
        self.assertEqual(Group(2, ["a"] * 12).rank(), 1)
        self.assertEqual(Group(2, ["aA" * 100]).rank(), 0)
        self.assertEqual(len(Group(2, ["ab" * 100]).picture()), 200)
        self.assertIs(type(told(Group, 2, ["a"] * 13)), InvalidList)
        self.assertIs(type(told(Group, 2, ["aA" * 100 + "a"])), InvalidList)

    def test_bounds_of_spots(self):
        words = ["a" * 150 + "b", "b" * 151 + "a"]
        self.assertEqual(len(Group(2, words[:1] + ["b" * 151]).picture()), 300)
        error = told(Group, 2, words)
        self.assertIs(type(error), TooMany)
        self.assertEqual(error.value, 302)
        self.assertEqual(told(Group, 2, ["a" * 150 + "b", "b" * 152]).value, 301)
        self.assertEqual(told(Group, 3, ["c" + letter * 199 for letter in "ab"] + [""]).value, 398)

    def test_long_lists_are_quick(self):
        chance = chance_of(7)
        words = [random_plain(chance, 3, 200) for _ in range(12)]
        error = check_quick(self, 2, told, Group, 3, words)
        self.assertEqual(error.value, len(slow_trie(words)))
        words = ["a" * (200 - step) for step in range(12)]
        self.assertEqual(check_quick(self, 2, Group, 1, words), Group(1, ["a"]))
        powers = [("ab" * 100)[:2 * step] for step in (99, 96, 93, 90, 84)]
        self.assertEqual(check_quick(self, 2, Group, 2, powers), Group(2, ["ababab"]))

    def test_results_belong_to_the_caller(self):
        words = ["aa", "ab"]
        group = Group(2, words)
        words.append("a")
        self.assertEqual(group, Group(2, ["aa", "ab"]))
        kept = check_owned(self, group.picture)
        self.assertEqual(kept, [[1, 1, None, 1], [0, 0, 0, None]])
        picture = group.picture()
        other = group_of(2, picture)
        spoil(picture)
        self.assertEqual(other, group)
        check_owned(self, way, group, "aab")


def slow_trie(words):
    """The spots of the rounds of words of which only beginnings and ends have to be put together."""
    spots = set()
    for word in words:
        for at in range(len(word)):
            spots.add(min(word[:at], back(word[at:]), key=len))
    # A beginning that is the same in two words, either way, is one spot.
    return spots


class PictureTest(unittest.TestCase):
    def test_no_pictures(self):
        good = [[1, None, 2, None], [None, 0, 1, 1], [2, 2, None, 0]]
        self.assertIs(is_picture(2, good), True)
        bad = [
            [], None, (), [[]], [[None] * 2], [[None] * 6], [(None,) * 4], tuple(good), [tuple(good[0])] + good[1:],
            good[:2], good + [good[2]], good + [[None] * 4],
            [[1, None, 2, None], [None, 0, 1, 1], [2, 2, None, True]],
            [[1, None, 2, None], [None, False, 1, 1], [2, 2, None, 0]],
            [[1, None, 2, None], [None, 0, 1, 1], [2, 2, None, "0"]],
            [[1, None, 2, None], [None, 0, 1, 1], [2, 2, None, -3]],
            [[1, None, 3, None], [None, 0, 1, 1], [2, 2, None, 0]],
            [[1, None, -1, None], [None, 0, 1, 1], [2, 2, None, 0]],
            [[2, None, 1, None], [1, 1, None, 0], [None, 0, 2, 2]],
            [[1, None, 2, None], [None, None, 1, 1], [2, 2, None, 0]],
            [[None, None, 2, None], [None, 0, 1, 1], [2, 2, None, 0]],
            [[1, None, 2, None], [None, 0, 1, 1], [None, None, None, 0]],
            [[1, None, 2, None], [None, 0, None, None], [2, 2, None, 0]],
            [[0, 0, None, None], [1, 1, None, None]],
            [[1, 1, None, None], [0, 0, None, None], [2, 2, 2, 2]],
        ]
        for value in bad + ODD + ["ab", 3, [good], good[0]]:
            self.assertIs(is_picture(2, value), False, value)
            error = told(group_of, 2, value)
            self.assertIs(type(error), InvalidPicture, value)
            self.assertIs(error.value, value)

    def test_unlike_letters(self):
        self.assertIs(is_picture(1, [[None] * 2]), True)
        self.assertIs(is_picture(2, [[None] * 2]), False)
        self.assertIs(is_picture(1, [[None] * 4]), False)

    def test_start_may_have_few_lanes(self):
        self.assertIs(is_picture(2, [[None] * 4]), True)
        self.assertIs(is_picture(2, [[1, None, None, None], [None, 0, 1, 1]]), True)

    def test_only_one_numbering(self):
        chance = chance_of(8)
        for _ in range(60):
            rows = Group(2, random_list(chance, 2, 4, 5) or ["abab"]).picture()
            order = list(range(1, len(rows)))
            chance.shuffle(order)
            order = [0] + order
            other = [[None if end is None else order.index(end) for end in rows[spot]] for spot in order]
            self.assertIs(is_picture(2, other), other == rows)

    def test_each_single_change(self):
        rows = Group(2, ["aab", "abA", "bb"]).picture()
        for spot in range(len(rows)):
            for sign in range(4):
                for end in [None] + list(range(len(rows))):
                    if rows[spot][sign] != end:
                        bent = [list(row) for row in rows]
                        bent[spot][sign] = end
                        self.assertIs(is_picture(2, bent), False)

    def test_bounds(self):
        for many in (1, 2, 6):
            rows = ring_of(many, 300)
            self.assertIs(is_picture(many, rows), True)
            self.assertEqual(group_of(many, rows).rank(), 300 * (many - 1) + 1)
            rows = ring_of(many, 301)
            self.assertIs(is_picture(many, rows), False)
            self.assertIs(type(told(group_of, many, rows)), InvalidPicture)


class WayTest(unittest.TestCase):
    def test_way_against_slow(self):
        chance = chance_of(9)
        for _ in range(200):
            many = chance.randint(1, 3)
            group = Group(many, random_list(chance, many, 4, 6))
            word = random_word(chance, many, chance.randint(0, 12))
            rows, passed = group.picture(), way(group, word)
            self.assertEqual(passed[0], 0)
            said = say(word)
            for at, spot in enumerate(passed[1:]):
                self.assertEqual(rows[passed[at]]["aAbBcCdDeEfF".index(said[at])], spot)
            if len(passed) <= len(said):
                self.assertIsNone(rows[passed[-1]]["aAbBcCdDeEfF".index(said[len(passed) - 1])])
            self.assertIs(belongs(group, word), slow_member(rows, word))
            self.assertIs(belongs(group, word), len(passed) == len(said) + 1 and passed[-1] == 0)

    def test_long_words(self):
        group = Group(2, ["aa", "b"])
        self.assertEqual(way(group, "a" * 1000), [0, 1] * 500 + [0])
        self.assertIs(belongs(group, "a" * 999 + "A"), True)
        self.assertIs(type(told(way, group, "a" * 1001)), InvalidWord)

    def test_empty_word(self):
        for words in ([], ["abA"], ["a", "b"]):
            self.assertEqual(way(Group(2, words), ""), [0])
            self.assertEqual(way(Group(2, words), "bB"), [0])
            self.assertIs(belongs(Group(2, words), "aA"), True)


class PartingTest(unittest.TestCase):
    def test_against_slow(self):
        chance = chance_of(10)
        words = plain_words(2, 7)
        for _ in range(80):
            one = Group(2, random_list(chance, 2, 3, 4))
            other = Group(2, random_list(chance, 2, 3, 4))
            one_rows, other_rows = one.picture(), other.picture()
            found = parting_word(one, other)
            first = next((word for word in words if slow_member(one_rows, word) != slow_member(other_rows, word)), None)
            if first is None:
                self.assertTrue(found is None or len(found) > 7)
                self.assertIs(found is None, one == other)
            else:
                self.assertEqual(found, first)
            self.assertEqual(parting_word(other, one), found)

    def test_close_groups(self):
        self.assertEqual(parting_word(Group(2, []), Group(2, ["abABab"])), "abABab")
        self.assertEqual(parting_word(Group(1, ["a" * 12]), Group(1, ["a" * 18])), "a" * 12)
        self.assertEqual(parting_word(Group(2, ["aba", "bb"]), Group(2, ["aba"])), "bb")
        self.assertIsNone(parting_word(Group(6, []), Group(6, ["fF"])))
        self.assertEqual(parting_word(Group(6, []), Group(6, ["F"])), "f")

    def test_great_pictures(self):
        for many in (2, 6):
            one, other = group_of(many, ring_of(many, 77)), group_of(many, ring_of(many, 76))
            self.assertEqual(check_quick(self, 5, parting_word, one, other), "a" * 76)
        one, other = Group(1, ["a" * 80]), Group(1, ["a" * 75])
        self.assertEqual(check_quick(self, 5, parting_word, one, other), "a" * 75)
        words = ["a" * 20 + "b" + "a" * 20, "b" * 30]
        one, other = Group(2, words), Group(2, words + [words[0] * 2 + words[1]])
        self.assertIsNone(check_quick(self, 5, parting_word, one, other))


class WrongTest(unittest.TestCase):
    def test_wrong(self):
        many = (0, InvalidNumber, WRONG_MANY)
        check_wrong(self, Group, [2, ["a"]], [many, (1, InvalidList, WRONG_LIST)])
        check_wrong(self, is_picture, [2, [[None] * 4]], [many])
        check_wrong(self, group_of, [2, [[None] * 4]], [many, (1, InvalidPicture, ODD + [0, "a", [], [[]]])])
        group = (0, InvalidGroup, WRONG_GROUP)
        for call in (way, belongs):
            check_wrong(self, call, [Group(2, ["a"]), "a"], [group, (1, InvalidWord, WRONG_WORD)])
        check_wrong(self, parting_word, [Group(2, ["a"]), Group(2, [])], [group, (1, InvalidGroup, WRONG_GROUP)])

    def test_letters_of_the_group(self):
        self.assertIs(type(told(way, Group(2, []), "c")), InvalidWord)
        self.assertEqual(way(Group(3, []), "c"), [0])

    def test_unlike(self):
        other = Group(3, ["a"])
        error = told(parting_word, Group(2, ["a"]), other)
        self.assertIs(type(error), Unlike)
        self.assertIs(error.value, other)


if __name__ == "__main__":
    unittest.main()
