"""Tests of promises 45 to 48."""

import unittest

from signlanes.bases import basis, is_basis
from signlanes.classes import how_many_classes
from signlanes.errors import (InvalidGroup, InvalidList, InvalidMap, InvalidNumber, InvalidWord, TooLong, TooMany,
                              Unlike)
from signlanes.groups import Group, belongs, group_of
from signlanes.lettermaps import (LetterMap, composed, counts, group_led, group_led_back, image, is_one_to_one,
                                  is_onto, leader_between, led_back, map_back)
from signlanes.meets import led, meet
from signlanes.within import leader_of_all
from signlanes.words import power
from tests.helpers import (SIGNS, WRONG_GROUP, WRONG_LIST, WRONG_MANY, WRONG_MAP, WRONG_WORD, back, chance_of,
                           check_error, check_owned, check_quick, check_wrong, full_picture, mixed_list, pasted,
                           plain_words, random_group, random_list, random_plain, random_word, say, slow_picture, told)

LETTERS = "abcdef"
SINGLE = LetterMap(2, ["aa", "b"])
WRONG_MAP_WORDS = [value for value in WRONG_LIST if value != []] + [[], ["a"] * 7, ["a" * 201], ["a", "b" * 201]]
NOT_SINGLE = [LetterMap(2, ["", "a"]), LetterMap(2, ["a", "A"]), LetterMap(2, ["ab", "abab"]), LetterMap(1, ["a", "a"])]


def powers_map(size, times):
    """A map that can be undone, by words with far more signs."""
    return LetterMap(size, [LETTERS[at] + LETTERS[at + 1] * times for at in range(size - 1)] + [LETTERS[size - 1]])


def random_map(chance, many, into, most):
    """A map of words with at most so many signs, now and then with equal words, powers and the empty word."""
    words = [random_word(chance, into, chance.randint(0, most)) for _ in range(many)]
    if chance.random() < 0.3:
        words[-1] = chance.choice(["", words[0], back(words[0]), words[0] * 2])
    return LetterMap(into, words)


def undoable_map(chance, many, steps, most):
    """A map that is onto and one to one."""
    words = mixed_list(chance, many, LETTERS[:many], steps, most) if many > 1 else [chance.choice("aA")]
    chance.shuffle(words)
    return LetterMap(many, words)


class ExampleTest(unittest.TestCase):
    def test_examples(self):
        behind, twice, same = LetterMap(2, ["ab", "b"]), LetterMap(2, ["aa", "b"]), LetterMap(2, ["a", "a"])
        self.assertEqual([image(behind, "aB"), image(behind, "Ab"), composed(behind, twice).words(), counts(behind),
                          map_back(behind).words(), map_back(twice)],
                         ["a", "BAb", ["aab", "b"], [[1, 1], [0, 1]], ["aB", "b"], None])
        self.assertEqual([is_onto(twice), is_one_to_one(twice), is_onto(same), is_one_to_one(same),
                          led_back(twice, "aabAA"), led_back(twice, "ab"), is_onto(LetterMap(1, ["aa", "aaa"]))],
                         [False, True, False, False, "abA", None, True])
        self.assertEqual([group_led(twice, Group(2, ["ab"])) == Group(2, ["aab"]),
                          group_led_back(twice, Group(2, ["aaaa", "b"])) == Group(2, ["aa", "b"]),
                          leader_between(behind, LetterMap(2, ["ba", "b"]))], [True, True, "B"])

    def test_names_of_arguments(self):
        lettermap = LetterMap(into=2, words=["ab", "b"])
        self.assertEqual(image(lettermap=lettermap, word="a"), "ab")
        self.assertEqual(composed(first=lettermap, second=lettermap).words(), ["abb", "b"])
        self.assertEqual(counts(lettermap=lettermap), [[1, 1], [0, 1]])
        self.assertIs(is_onto(lettermap=lettermap), True)
        self.assertIs(is_one_to_one(lettermap=lettermap), True)
        self.assertEqual(led_back(lettermap=lettermap, word="a"), "aB")
        self.assertEqual(map_back(lettermap=lettermap).words(), ["aB", "b"])
        self.assertEqual(group_led(lettermap=lettermap, group=Group(2, ["a"])), Group(2, ["ab"]))
        self.assertEqual(group_led_back(lettermap=lettermap, group=Group(2, ["ab"])), Group(2, ["a"]))
        self.assertEqual(leader_between(one=lettermap, other=lettermap), "")


class LetterMapTest(unittest.TestCase):
    def test_methods(self):
        words = ["abBA", "aab", "B"]
        lettermap = LetterMap(2, words)
        self.assertEqual([lettermap.many(), lettermap.into(), lettermap.words()], [3, 2, ["", "aab", "B"]])
        words[1] = "a"
        words.append("a")
        lettermap.words().append("b")
        self.assertEqual([lettermap.many(), lettermap.words()], [3, ["", "aab", "B"]])
        check_owned(self, lettermap.words)
        self.assertEqual([LetterMap(1, ["a"] * 6).many(), LetterMap(6, [""]).into()], [6, 6])
        self.assertEqual(LetterMap(6, ["f" * 200] * 6).words(), ["f" * 200] * 6)

    def test_equality(self):
        lettermap = LetterMap(2, ["ab", ""])
        self.assertTrue(lettermap == LetterMap(2, ["aAab", "bB"]))
        for other in (LetterMap(3, ["ab", ""]), LetterMap(2, ["ab"]), LetterMap(2, ["", "ab"]), LetterMap(2, ["ab", "a"]),
                      ["ab", ""], None, "ab", 2, Group(2, ["ab"])):
            self.assertFalse(lettermap == other)
            self.assertTrue(lettermap != other)

    def test_wrong(self):
        check_wrong(self, LetterMap, [2, ["a"]], [(0, InvalidNumber, WRONG_MANY), (1, InvalidList, WRONG_MAP_WORDS)])


class ImageTest(unittest.TestCase):
    def test_against_slow(self):
        chance = chance_of(200)
        for _ in range(200):
            many, into = chance.randint(1, 6), chance.randint(1, 6)
            lettermap = random_map(chance, many, into, 6)
            one, other = random_word(chance, many, 8), random_word(chance, many, 5)
            self.assertEqual(image(lettermap, one), pasted(lettermap.words(), one))
            self.assertEqual(image(lettermap, one + other), say(image(lettermap, one) + image(lettermap, other)))
            self.assertEqual(image(lettermap, back(one)), back(image(lettermap, one)))
            second = random_map(chance, into, chance.randint(1, 6), 5)
            found = composed(lettermap, second)
            self.assertEqual((found.many(), found.into()), (many, second.into()))
            self.assertEqual(found.words(), [pasted(second.words(), word) for word in lettermap.words()])
            self.assertEqual(image(found, one), image(second, image(lettermap, one)))
            sums = [[word.count(letter) - word.count(letter.upper()) for letter in LETTERS[:into]]
                    for word in lettermap.words()]
            self.assertEqual(check_owned(self, counts, lettermap), sums)

    def test_long_images(self):
        lettermap = LetterMap(2, ["a" * 200, "b" * 200])
        self.assertEqual(image(lettermap, "aabba"), say("a" * 400 + "b" * 400 + "a" * 200))
        for word, size in (("aaaaaa", 1200), ("aabbaB", 1200), ("a" * 1000, 200000), ("ab" * 3 + "AA", 1600)):
            error = told(image, lettermap, word)
            self.assertEqual((type(error), error.value), (TooLong, size))
        self.assertEqual(image(lettermap, "aA" * 500), "")
        plus = LetterMap(1, ["a" * 143, "A"])
        self.assertEqual(len(image(plus, "a" * 7 + "b")), 1000)
        self.assertEqual(told(image, plus, "a" * 7).value, 1001)
        self.assertEqual(told(image, plus, "a" * 7 + "B").value, 1002)

    def test_long_maps(self):
        twice = LetterMap(2, ["a" * 100, "b" * 50])
        found = composed(LetterMap(2, ["a" * 10, "b" * 20]), twice)
        self.assertEqual(found.words(), ["a" * 1000, "b" * 1000])
        # What is returned goes on to be a map that every function takes.
        self.assertEqual(image(found, "a"), "a" * 1000)
        self.assertEqual(told(image, found, "aab").value, 3000)
        self.assertEqual(counts(found), [[1000, 0], [0, 1000]])
        self.assertEqual([is_onto(found), is_one_to_one(found)], [False, True])
        self.assertEqual(leader_between(found, found), "")
        self.assertEqual(composed(LetterMap(2, ["b", "A"]), found).words(), ["b" * 1000, "A" * 1000])
        for words, size in ((["aaa", "bbbbbbbbbbbbbbbbbbbbb", "a" * 11], 1050), (["a" * 11, "b" * 99, "a" * 12], 1100),
                            (["a" * 10 + "b", "b" * 99, ""], 1050)):
            error = told(composed, LetterMap(2, words), twice)
            self.assertEqual((type(error), error.value), (TooLong, size))
        chance = chance_of(201)
        long = composed(LetterMap(6, list(LETTERS)), LetterMap(6, [random_plain(chance, 6, 200) for _ in range(6)]))
        check_quick(self, 5, told, image, long, random_plain(chance, 6, 1000))
        check_quick(self, 5, told, composed, LetterMap(6, [random_plain(chance, 6, 200) for _ in range(6)]), long)

    def test_wrong(self):
        check_wrong(self, image, [LetterMap(2, ["a", "b", "ab"]), "c"],
                    [(0, InvalidMap, WRONG_MAP), (1, InvalidWord, [value for value in WRONG_WORD if value not in
                                                                   ("c", "C", "abc")] + ["d", "abD"])])
        check_wrong(self, counts, [SINGLE], [(0, InvalidMap, WRONG_MAP)])
        unlike = [LetterMap(2, ["a"]), LetterMap(2, ["a", "b", "a"]), LetterMap(1, [""] * 6)]
        check_wrong(self, composed, [SINGLE, SINGLE],
                    [(0, InvalidMap, WRONG_MAP), (1, InvalidMap, WRONG_MAP), (1, Unlike, unlike)])


class KindsTest(unittest.TestCase):
    def test_against_pictures(self):
        chance = chance_of(202)
        kinds = set()
        for _ in range(300):
            many, into = chance.randint(1, 4), chance.randint(1, 3)
            lettermap = random_map(chance, many, into, 5)
            if chance.random() < 0.3:
                lettermap = undoable_map(chance, many, 12, 8)
            rows = slow_picture(lettermap.into(), lettermap.words())
            lanes = sum(end is not None for row in rows for end in row) // 2
            self.assertIs(is_onto(lettermap), rows == [[0] * (2 * lettermap.into())])
            self.assertIs(is_one_to_one(lettermap), lanes - len(rows) + 1 == lettermap.many())
            kinds.add((is_onto(lettermap), is_one_to_one(lettermap)))
        self.assertEqual(len(kinds), 4)

    def test_kinds(self):
        for words, into, onto, single in ((["a"], 1, True, True), (["A"], 1, True, True), (["aa"], 1, False, True),
                                          ([""], 1, False, False), (["a", "a"], 1, True, False), (["a"], 2, False, True),
                                          (["aa", "aaa"], 1, True, False), (["ab", "ba", "aa"], 2, False, True),
                                          (["ab", "ba", "b"], 2, True, False), ([""] * 6, 6, False, False),
                                          (list("fedcba"), 6, True, True), (list("abcdee"), 6, False, False),
                                          (["ab", "abab"], 2, False, False)):
            self.assertIs(is_onto(LetterMap(into, words)), onto)
            self.assertIs(is_one_to_one(LetterMap(into, words)), single)

    def test_pictures_of_many_spots(self):
        chance = chance_of(203)
        lettermap = LetterMap(6, [random_plain(chance, 6, 200) for _ in range(6)])
        self.assertIs(type(told(Group, 6, lettermap.words())), TooMany)
        self.assertEqual([check_quick(self, 3, kind, lettermap) for kind in (is_onto, is_one_to_one)], [False, True])
        longer = composed(LetterMap(6, ["ab", "cd", "ba", "ef", "abba", "fe"]), lettermap)
        self.assertEqual([is_onto(longer), is_one_to_one(longer)], [False, False])

    def test_wrong(self):
        check_wrong(self, is_onto, [SINGLE], [(0, InvalidMap, WRONG_MAP)])
        check_wrong(self, is_one_to_one, [SINGLE], [(0, InvalidMap, WRONG_MAP)])


class BackTest(unittest.TestCase):
    def test_words_led_back(self):
        chance = chance_of(204)
        for _ in range(150):
            many, into = chance.randint(1, 4), chance.randint(2, 4)
            lettermap = random_map(chance, many, into, 5)
            if not is_one_to_one(lettermap):
                check_error(self, led_back, [lettermap, "a"], InvalidMap, lettermap)
                check_error(self, led_back, [lettermap, None], InvalidMap, lettermap)
                continue
            word = random_word(chance, many, chance.randint(0, 6))
            there = image(lettermap, word)
            self.assertEqual(led_back(lettermap, there), say(word))
            self.assertEqual(led_back(lettermap, "aA" + there + "Bb"), say(word))
            other = random_word(chance, into, chance.randint(0, 6))
            found = led_back(lettermap, other)
            self.assertIs(found is not None, belongs(Group(into, lettermap.words()), other))
            if found is not None:
                self.assertEqual((image(lettermap, found), found), (say(other), say(found)))

    def test_maps_back(self):
        chance = chance_of(205)
        for _ in range(150):
            many = chance.randint(1, 6)
            lettermap = undoable_map(chance, many, chance.randint(0, 14), 12)
            found = map_back(lettermap)
            self.assertEqual((found.many(), found.into()), (many, many))
            letters = LetterMap(many, list(LETTERS[:many]))
            self.assertTrue(composed(lettermap, found) == letters == composed(found, lettermap))
            self.assertEqual(map_back(found), lettermap)
            self.assertEqual([led_back(lettermap, letter) for letter in LETTERS[:many]], found.words())
            words = lettermap.words()
            words[chance.randrange(many)] += "aa" if many == 1 else words[0] * 2 + words[1]
            bent = LetterMap(many, words)
            self.assertIs(map_back(bent) is None, not (is_onto(bent) and is_one_to_one(bent)))
        for lettermap in NOT_SINGLE + [SINGLE, LetterMap(1, ["aa"]), LetterMap(2, ["a"]), LetterMap(3, ["a", "b", "a"]),
                                       LetterMap(1, ["a", "A", "aa"]), LetterMap(2, ["aa", "ab", "bb"])]:
            self.assertIsNone(map_back(lettermap))

    def test_long_ways_back(self):
        # Each word of the way back is that of the next letter, so many times.
        self.assertEqual([len(word) for word in map_back(powers_map(4, 9)).words()], [820, 91, 10, 1])
        for size, times, longest in ((4, 10, 1111), (6, 10, 111111), (3, 40, 1641), (5, 6, 1555)):
            lettermap = powers_map(size, times)
            error = told(check_quick, self, 5, map_back, lettermap)
            self.assertEqual((type(error), error.value), (TooLong, longest))
            error = told(led_back, lettermap, "a")
            self.assertEqual((type(error), error.value), (TooLong, longest))
            # The number of signs is that of the plain word.
            self.assertEqual(told(led_back, lettermap, "a" * 19 + "b").value, 19 * longest - (longest - 1) // times)
            self.assertEqual(led_back(lettermap, "a" + LETTERS[1] * times), "a")
            self.assertEqual(led_back(lettermap, "aA"), "")
        # The first word that is too long is told.
        turned = LetterMap(4, powers_map(4, 14).words()[::-1])
        self.assertEqual(told(map_back, turned).value, 2955)
        bent = composed(LetterMap(4, ["a", "b", "c", "d"]), powers_map(4, 14))
        self.assertEqual(told(map_back, bent).value, 2955)
        shifted = composed(powers_map(4, 11), LetterMap(4, ["b", "c", "d", "a"]))
        self.assertEqual([told(map_back, shifted).value, len(led_back(shifted, "a"))], [1464, 1])

    def test_limits(self):
        chance = chance_of(206)
        for _ in range(6):
            lettermap = undoable_map(chance, 6, 40, 10)
            word = random_plain(chance, 6, 20)
            found = check_quick(self, 5, led_back, lettermap, word)
            self.assertEqual(pasted(lettermap.words(), found), word)
        error = told(check_quick, self, 5, led_back, powers_map(6, 10), "a" * 20)
        self.assertEqual(error.value, 20 * 111111)

    def test_wrong(self):
        check_wrong(self, led_back, [SINGLE, "a"],
                    [(0, InvalidMap, WRONG_MAP + NOT_SINGLE), (1, InvalidWord, WRONG_WORD)])
        check_wrong(self, map_back, [SINGLE], [(0, InvalidMap, WRONG_MAP)])


class GroupLedTest(unittest.TestCase):
    def test_against_slow(self):
        chance = chance_of(207)
        ranks = set()
        for _ in range(200):
            many, into = chance.randint(1, 3), chance.randint(1, 3)
            lettermap, group = random_map(chance, many, into, 5), random_group(chance, many, 3, 5)
            found = group_led(lettermap, group)
            self.assertEqual(found.picture(), slow_picture(into, [pasted(lettermap.words(), word)
                                                                  for word in basis(group)]))
            self.assertEqual(found.many(), into)
            if is_one_to_one(lettermap):
                self.assertEqual(found.rank(), group.rank())
                ranks.add(group.rank())
            word = random_word(chance, many, 4)
            if belongs(group, word):
                self.assertTrue(belongs(found, image(lettermap, word)))
        self.assertGreater(len(ranks), 3)

    def test_edges(self):
        self.assertEqual(group_led(SINGLE, Group(2, [])), Group(2, []))
        self.assertEqual(group_led(LetterMap(3, ["", ""]), Group(2, ["a", "b"])), Group(3, []))
        self.assertEqual(group_led(LetterMap(1, ["a", "A"]), Group(2, ["ab", "ba"])), Group(1, []))
        # Spots of the first picture may come to stand on no way back to the start.
        self.assertEqual(group_led(LetterMap(3, ["b", "Bcb"]), Group(2, ["abA"])), Group(3, ["c"]))
        self.assertEqual(group_led(LetterMap(2, ["bA", "abA"]), Group(2, ["abA"])), Group(2, ["b"]))
        every = Group(2, ["a", "b"])
        self.assertEqual(group_led(LetterMap(4, ["cd", "dA"]), every), Group(4, ["cd", "dA"]))

    def test_many_spots(self):
        ring = Group(1, ["a" * 100])
        self.assertEqual(len(group_led(LetterMap(1, ["aaa"]), ring).picture()), 300)
        error = told(group_led, LetterMap(1, ["aaaa"]), ring)
        self.assertEqual((type(error), error.value), (TooMany, 400))
        self.assertEqual(told(group_led, LetterMap(2, ["aba"]), Group(1, ["a" * 101])).value, 303)
        # The picture may become greater on the way.
        self.assertEqual(group_led(LetterMap(2, ["a" * 200, "a" * 199]), Group(2, ["a", "b"])), Group(2, ["a"]))
        chance = chance_of(208)
        group = group_of(6, full_picture(chance, 6, 300))
        self.assertEqual(check_quick(self, 5, group_led, LetterMap(6, list("bcdefA")), group).rank(), group.rank())
        lettermap = LetterMap(6, [sign + random_plain(chance, 6, 198).strip(SIGNS[:2]) + sign for sign in LETTERS])
        sizes = sum(len(word) - 1 for word in lettermap.words())
        error = told(check_quick, self, 8, group_led, lettermap, group)
        self.assertIs(type(error), TooMany)
        self.assertTrue(300 * (sizes - 100) < error.value <= 300 * (sizes + 1))
        # A map that is returned may have words of far more signs.
        longer = composed(LetterMap(6, ["ababa", "bcbcb", "cdcdc", "deded", "efefe", "fafaf"]), lettermap)
        self.assertGreater(sum(map(len, longer.words())), 5700)
        error = told(check_quick, self, 5, group_led, longer, group)
        self.assertTrue(type(error) is TooMany and error.value > 100000)
        twice = composed(lettermap, map_back(LetterMap(6, list("bcdefA"))))
        self.assertEqual(told(group_led, lettermap, group).value, told(group_led, twice, group).value)

    def test_wrong(self):
        check_wrong(self, group_led, [LetterMap(3, ["aa", "b"]), Group(2, ["a"])],
                    [(0, InvalidMap, WRONG_MAP), (1, InvalidGroup, WRONG_GROUP),
                     (1, Unlike, [Group(1, ["a"]), Group(3, ["a"]), Group(6, [])])])


def ring_size(word):
    """The number of spots of the picture of the group of one plain word."""
    hair = 0
    while word[hair] == word[-1 - hair].swapcase():
        hair += 1
    return len(word) - hair


class GroupLedBackTest(unittest.TestCase):
    def test_against_words(self):
        chance = chance_of(209)
        shapes = set()
        for _ in range(120):
            many, into = chance.randint(1, 3), chance.randint(2, 3)
            lettermap, group = random_map(chance, many, into, 4), random_group(chance, into, 3, 4)
            if not is_one_to_one(lettermap):
                continue
            if chance.random() < 0.5:
                led_words = [pasted(lettermap.words(), word) for word in random_list(chance, many, 3, 3)]
                group = Group(into, led_words + random_list(chance, into, 1, 3))
            found = group_led_back(lettermap, group)
            self.assertEqual(found.many(), many)
            for word in plain_words(many, 8 if many == 1 else 5 if many == 2 else 3):
                self.assertIs(belongs(found, word), belongs(group, image(lettermap, word)))
            for word in basis(found):
                self.assertTrue(belongs(group, image(lettermap, word)))
            self.assertEqual(group_led(lettermap, found), meet(group, Group(into, lettermap.words())))
            self.assertEqual(group_led_back(lettermap, group_led(lettermap, found)), found)
            shapes.add((min(found.rank(), 3), how_many_classes(found) is None, how_many_classes(group) is None))
        self.assertGreater(len(shapes), 4)

    def test_maps_that_can_be_undone(self):
        chance = chance_of(210)
        for _ in range(40):
            many = chance.randint(1, 4)
            lettermap, group = undoable_map(chance, many, 8, 6), random_group(chance, many, 3, 5)
            found = group_led_back(lettermap, group)
            self.assertEqual(found, group_led(map_back(lettermap), group))
            self.assertEqual(group_led(lettermap, found), group)
            self.assertEqual(group_led_back(lettermap, group_led(lettermap, group)), group)

    def test_edges(self):
        self.assertEqual(group_led_back(SINGLE, Group(2, [])), Group(2, []))
        self.assertEqual(group_led_back(SINGLE, Group(2, ["a", "b"])), Group(2, ["a", "b"]))
        self.assertEqual(group_led_back(SINGLE, Group(2, ["ab"])), Group(2, []))
        self.assertEqual(group_led_back(LetterMap(6, ["f"]), Group(6, list("abcde"))), Group(1, []))
        self.assertEqual(group_led_back(LetterMap(6, ["F"]), Group(6, list("abcdf"))), Group(1, ["a"]))
        self.assertEqual(group_led_back(LetterMap(2, ["aa", "ab", "ba", "bb"][:3]), Group(2, ["aa", "ab", "bA"])),
                         Group(3, ["a", "b", "c"]))
        self.assertEqual(group_led_back(LetterMap(2, ["ab", "ba"]), Group(2, ["abba", "b"])), Group(2, ["ab"]))

    def test_many_spots(self):
        ring = Group(2, ["a" * 17, "b"])
        self.assertEqual(len(group_led_back(LetterMap(2, ["a"]), ring).picture()), 17)
        # One letter is led to a word of many others that goes round once and again.
        chance = chance_of(211)
        for _ in range(20):
            group = group_of(3, full_picture(chance, 3, 30))
            lettermap = LetterMap(3, ["a" + "b" * 8, "b" + "c" * 8, "c"])
            found = check_quick(self, 5, group_led_back, lettermap, group)
            self.assertEqual((len(found.picture()), how_many_classes(found)), (30, 30))
        far = Group(3, ["a" + "c" * 29])
        lettermap = LetterMap(3, ["a" + "b" * 8, "b" + "c" * 11, "c"])
        self.assertEqual(len(group_led_back(lettermap, far).picture()), 126)
        lettermap = LetterMap(3, ["ab" * 4, "bc" * 4, "ca" * 4])
        self.assertEqual(group_led_back(lettermap, Group(3, ["ab", "bc", "ca"])), Group(3, ["a", "b", "c"]))
        lettermap = LetterMap(4, ["a" + "b" * 6, "b" + "c" * 6, "c" + "d" * 5, "d"])
        letters = map_back(lettermap).words()
        for word, spots in (("a" + "b" * 20, 519), ("aaba", 632), ("aa", 446)):
            error = told(group_led_back, lettermap, Group(4, [word]))
            self.assertEqual((type(error), error.value), (TooMany, spots))
            self.assertEqual(ring_size(pasted(letters, word)), spots)
        for word in ("adA", "dcba", "abCB"):
            self.assertEqual(len(group_led_back(lettermap, Group(4, [word])).picture()),
                             ring_size(pasted(letters, word)))

    def test_limits(self):
        chance = chance_of(212)
        for _ in range(8):
            words = [random_plain(chance, 6, 4) for _ in range(6)]
            lettermap, group = LetterMap(6, words), group_of(6, full_picture(chance, 6, 30))
            if is_one_to_one(lettermap):
                found = check_quick(self, 5, group_led_back, lettermap, group)
                one, other = told(group_led, lettermap, found), told(meet, group, Group(6, words))
                self.assertEqual((type(one), getattr(one, "value", None)), (type(other), getattr(other, "value", None)))
                self.assertTrue(one or group_led(lettermap, found) == meet(group, Group(6, words)))
                for _ in range(30):
                    word = random_word(chance, 6, chance.randint(1, 5))
                    self.assertIs(belongs(found, word), belongs(group, image(lettermap, word)))
        lettermap = LetterMap(2, [random_plain(chance, 2, 12) for _ in range(2)])
        check_quick(self, 5, told, group_led_back, lettermap, group_of(2, full_picture(chance, 2, 30)))

    def test_wrong(self):
        lettermap = LetterMap(3, ["aa", "b"])
        not_single = [LetterMap(3, ["", "a"]), LetterMap(3, ["a", "A"])]
        check_wrong(self, group_led_back, [lettermap, Group(3, ["a"])],
                    [(0, InvalidMap, WRONG_MAP + not_single), (1, InvalidGroup, WRONG_GROUP),
                     (1, Unlike, [Group(1, ["a"]), Group(2, ["a"]), Group(6, [])])])


class LeaderBetweenTest(unittest.TestCase):
    def test_against_slow(self):
        chance = chance_of(213)
        found_some = 0
        for many, into in ((1, 2), (2, 2), (3, 2), (2, 1), (2, 3), (6, 3)):
            words = plain_words(into, 5 if into < 3 else 3)
            for _ in range(40):
                one = random_map(chance, many, into, 4)
                lead = random_plain(chance, into, chance.randint(0, 4))
                other = LetterMap(into, [back(lead) + word + lead for word in one.words()])
                if chance.random() < 0.2:
                    other = random_map(chance, many, into, 4)
                found = leader_between(one, other)
                slow = next((word for word in words if all(say(back(word) + left + word) == right
                                                           for left, right in zip(one.words(), other.words()))), None)
                if slow is not None or found is None or len(found) <= 3:
                    self.assertEqual(found, slow)
                self.assertEqual(found, leader_of_all(into, list(zip(one.words(), other.words()))))
                found_some += bool(found)
        self.assertGreater(found_some, 60)

    def test_edges(self):
        empty = LetterMap(2, ["", ""])
        self.assertEqual(leader_between(empty, empty), "")
        self.assertIsNone(leader_between(empty, LetterMap(2, ["", "a"])))
        self.assertIsNone(leader_between(LetterMap(2, ["a", ""]), empty))
        powers = LetterMap(2, ["ab", "abab", "BA", ""])
        self.assertEqual(leader_between(powers, LetterMap(2, ["ba", "baba", "AB", ""])), "a")
        self.assertIsNone(leader_between(powers, LetterMap(2, ["ba", "baba", "ba", ""])))
        self.assertEqual(leader_between(LetterMap(2, ["aa", "aaa"]), LetterMap(2, ["Baab", "Baaab"])), "b")
        same = LetterMap(2, ["ab", "ab", "b"])
        self.assertEqual(leader_between(same, LetterMap(2, ["ba", "ba", "b"])), "B")
        self.assertIsNone(leader_between(same, LetterMap(2, ["ba", "ab", "b"])))
        self.assertEqual(leader_between(LetterMap(2, ["ab", "ab"]), LetterMap(2, ["ba", "ba"])), "a")

    def test_long_words(self):
        chance = chance_of(214)
        lead = random_plain(chance, 6, 90)
        words = [random_plain(chance, 6, 20) for _ in range(6)]
        one, other = LetterMap(6, words), LetterMap(6, [back(lead) + word + lead for word in words])
        self.assertEqual(check_quick(self, 5, leader_between, one, other), lead)
        longer = LetterMap(6, [random_plain(chance, 6, 150) for _ in range(6)])
        one, other = composed(LetterMap(6, ["ab", "cd", "ef"]), longer), composed(LetterMap(6, ["ba", "dc", "fe"]), longer)
        self.assertIsNone(check_quick(self, 5, leader_between, one, other))
        self.assertEqual(check_quick(self, 5, leader_between, one, one), "")
        base = random_plain(chance, 2, 90)
        one = LetterMap(2, [base, power(2, base, 2)])
        other = LetterMap(2, [back("aab") + base + "aab", back("aab") + power(2, base, 2) + "aab"])
        self.assertEqual(leader_between(one, other), leader_of_all(2, [(one.words()[0], other.words()[0])]))

    def test_wrong(self):
        check_wrong(self, leader_between, [SINGLE, SINGLE],
                    [(0, InvalidMap, WRONG_MAP), (1, InvalidMap, WRONG_MAP),
                     (1, Unlike, [LetterMap(2, ["a"]), LetterMap(3, ["aa", "b"]), LetterMap(2, ["aa", "b", ""])])])


class AgreementTest(unittest.TestCase):
    def test_maps_bases_and_rows(self):
        chance = chance_of(215)
        for _ in range(60):
            many = chance.randint(1, 3)
            lettermap = random_map(chance, many, 2, 4)
            self.assertIs(is_one_to_one(lettermap), is_basis(2, lettermap.words()))
            word = random_word(chance, 2, 3)
            self.assertEqual(group_led(LetterMap(2, [back(word) + letter + word for letter in "ab"]), Group(2, ["ab"])),
                             led(Group(2, ["ab"]), word))


if __name__ == "__main__":
    unittest.main()
