"""Tests of promises 41 and 42."""

import unittest

from signlanes.errors import InvalidList, InvalidMachine, InvalidNumber, InvalidWord, TooMany, Unlike
from signlanes.wordsets import (WordSet, all_words, first_unlike_word, no_words, other_words, quiet_pairs, within,
                                words_of)
from tests.helpers import (ODD, SIGNS, WRONG_MANY, WRONG_SET, WRONG_WORD, WRONG_WORDS, back, chance_of, check_error,
                           check_owned, check_quick, check_wrong, place, plain_words, random_plain, random_word, say,
                           told)
from tests.machines import SlowSet, check_least, lanes_said, random_lanes, words_in

WRONG_STATES = ODD + [0, -1, 61, 10 ** 29, "1", "", [], [1]]
WRONG_LANES = ODD + [0, "", "a", ((0, "a", 0),), [[0, "a", 0]], [(0, "a")], [(0, "a", 0, 0)], [(0, "a", 2)],
                     [(2, "a", 0)], [(0, "c", 0)], [(0, None, 0)], [(0, 0, "a")], [(None, "a", 0)], [(0, "a", True)],
                     [(False, "a", 0)], [(0, "a", -1)], [(-1, "a", 0)], [(0, "a", 0), None], [(0, ["a"], 0)],
                     [(0, "a" * 201, 0)], [(0, "a" * 100, 0), (0, "b" * 101, 1)], [(0, "", 0)] * 301, [(0, "a b", 1)],
                     [(0, "a", 0)] * 200 + [(1, "b", 1)], [[(0, "a", 0)]], [(0, "a" * 1001, 0)], [("0", "a", "0")]]
WRONG_ENDS = ODD + [0, "", "0", (0,), [2], [-1], [0, 0], [1, 0], [None], [True], [False], ["0"], [[0]], [0, 1, 1], [0, 2],
                    [(0,)], [10 ** 29]]
UNLIKE_SETS = [words_of(1, ["a"]), no_words(3), all_words(6)]


def last_lanes(first, size):
    """Lanes that keep in mind which of the last signs, of so many, were an `a`, from a state on."""
    lanes = [(first, "a", first), (first, "b", first)] + [(first, "a", first + 1)][:size]
    return lanes + [(first + at, sign, first + at + 1) for at in range(1, size) for sign in "ab"]


class ExampleTest(unittest.TestCase):
    def test_examples(self):
        threes = WordSet(1, 1, [(0, "aaa", 0)], [0])
        self.assertEqual([threes.rows(), threes.ends(), "aAA" in threes, "aaa" in threes, threes.finite],
                         [[[1, 2], [3, 2], [2, 2], [0, 2]], [0], False, True, False])
        even = WordSet(1, 2, [(0, "a", 1), (1, "a", 0), (0, "A", 1), (1, "A", 0)], [0])
        self.assertEqual([even.rows(), even.ends(), "aaaa" in even, "aAA" in even],
                         [[[1, 2], [3, 4], [4, 5], [1, 4], [4, 4], [4, 2]], [0, 3, 5], True, False])
        falls = WordSet(2, 2, [(0, "ab", 0), (0, "B", 1)], [1])
        self.assertEqual(["a" in falls, "B" in falls, "ab" in falls,
                          quiet_pairs(2, 2, [(0, "ab", 0), (0, "B", 1), (1, "A", 1)]), first_unlike_word(threes, even),
                          within(threes & even, threes)], [True, True, False, [(0, 0), (0, 1), (1, 1)], "aa", True])
        self.assertEqual(other_words(all_words(1)), no_words(1))

    def test_names_of_arguments(self):
        words = WordSet(many=1, states=1, lanes=[(0, "a", 0)], ends=[0])
        self.assertEqual(words.many(), 1)
        self.assertEqual(all_words(many=1), words | WordSet(1, 1, [(0, "A", 0)], [0]))
        self.assertIs(no_words(many=1).empty, True)
        self.assertEqual(words_of(many=1, words=["aA"]).ends(), [0])
        self.assertEqual(other_words(words=all_words(1)), no_words(many=1))
        self.assertEqual(quiet_pairs(many=1, states=1, lanes=[]), [(0, 0)])
        self.assertEqual(first_unlike_word(one=words, other=no_words(1)), "")
        self.assertIs(within(one=words, other=words), True)


class WordSetTest(unittest.TestCase):
    def test_against_slow(self):
        chance = chance_of(180)
        for many, most in ((1, 8), (2, 4), (3, 3)):
            plain = plain_words(many, most)
            for _ in range(70):
                states = chance.randint(1, 5)
                lanes = random_lanes(chance, many, states, chance.randint(0, 7), 4)
                ends = sorted(chance.sample(range(states), chance.randint(0, states)))
                slow, words = SlowSet(states, lanes, ends), WordSet(many, states, lanes, ends)
                self.assertEqual([word in words for word in plain], [slow.has(word) for word in plain])
                for word in lanes_said(chance, lanes, ends, 12):
                    self.assertIn(word, words)
                check_least(self, words)
                self.assertEqual(quiet_pairs(many, states, lanes),
                                 sorted((one, other) for one, other in slow.pairs if max(one, other) < states))
                self.check_size(words)

    def check_size(self, words):
        """Check whether a set is told to be empty and finite by the words that its machine lets."""
        rows, counts = words.rows(), [1] + [0] * (len(words.rows()) - 1)
        let = []
        for _ in range(2 * len(rows)):
            let.append(any(counts[end] for end in words.ends()))
            counts = [any(counts[state] and end in rows[state] for state in range(len(rows)))
                      for end in range(len(rows))]
        self.assertIs(words.empty, not any(let))
        self.assertIs(words.finite, not any(let[len(rows):]))

    def test_smallest_and_greatest_machines(self):
        for many in (1, 2, 6):
            for states in (1, 60):
                for ends in ([], [0], [states - 1], list(range(states))):
                    words = WordSet(many, states, [], ends)
                    self.assertEqual(words, words_of(many, [""]) if 0 in ends else no_words(many))
                    self.assertEqual((words.empty, words.finite), (0 not in ends, True))
        self.assertEqual(no_words(2).rows(), [[0, 0, 0, 0]])
        self.assertEqual(words_of(1, [""]).rows(), [[1, 1], [1, 1]])
        self.assertEqual(all_words(1).rows(), [[1, 2], [1, 3], [3, 2], [3, 3]])
        self.assertEqual([all_words(many).ends() for many in (1, 2)], [[0, 1, 2], [0, 1, 2, 3, 4]])
        line = [(at, "ab", at + 1) for at in range(59)]
        self.assertEqual(WordSet(2, 60, line, [59]), WordSet(2, 2, [(0, "ab" * 59, 1)], [1]))
        self.assertEqual(WordSet(2, 60, [(at, "", at + 1) for at in range(59)], [59]), words_of(2, ["aA"]))

    def test_bounds_of_lanes(self):
        self.assertEqual(WordSet(1, 1, [(0, "a" * 200, 0)], [0]), WordSet(1, 1, [(0, "a" * 200, 0)] + [(0, "", 0)], [0]))
        self.assertEqual(len(WordSet(1, 1, [(0, "a" * 200, 0)], [0]).rows()), 201)
        self.assertEqual(WordSet(2, 2, [(0, "", 1)] * 300, [1]), words_of(2, [""]))
        self.assertEqual(WordSet(2, 2, [(0, "a", 1)] * 200 + [(1, "", 0)] * 100, [1]), WordSet(2, 1, [(0, "a", 0)], [0])
                         - words_of(2, [""]))

    def test_signs_fall_away_across_lanes(self):
        words = WordSet(2, 4, [(0, "ab", 1), (1, "BA", 2), (2, "b", 3), (2, "BAb", 3)], [3])
        self.assertEqual(words, words_of(2, ["b", "BAb"]))
        words = WordSet(1, 2, [(0, "aaa", 0), (0, "A", 1), (1, "A", 1)], [1])
        self.assertEqual(words, all_words(1))
        words = WordSet(1, 2, [(0, "aaa", 0), (0, "AA", 1)], [1])
        self.assertEqual(words_in(words, 8), ["a", "AA", "aaaa", "aaaaaaa"])
        # 50 lanes have to be read until what is left falls away.
        lanes = [(at, "a", at + 1) for at in range(25)] + [(at, "A", at + 1) for at in range(25, 50)]
        self.assertEqual(WordSet(1, 51, lanes, [50]), words_of(1, [""]))
        self.assertIn((0, 50), quiet_pairs(1, 51, lanes))
        self.assertEqual(quiet_pairs(1, 51, lanes),
                         [(one, other) for one in range(51) for other in range(51)
                          if one == other or one < other and one + other == 50])

    def test_one_set_made_in_several_ways(self):
        ways = [WordSet(2, 1, [(0, "ab", 0)], [0]), WordSet(2, 2, [(0, "a", 1), (1, "b", 0)], [0]),
                WordSet(2, 3, [(2, "ab", 2), (0, "", 2), (0, "aA", 0), (2, "aABb", 2)], [0, 2]),
                WordSet(2, 3, [(0, "ab", 1), (1, "ab", 0), (0, "b", 2), (1, "", 0)], [0, 1]),
                words_of(2, [""]) | WordSet(2, 2, [(0, "ab", 0), (0, "ab", 1)], [1]),
                WordSet(2, 1, [(0, "ab", 0), (0, "B", 0)], [0]) - WordSet(2, 1, [(0, "ab", 0), (0, "B", 0)], [0])
                | WordSet(2, 1, [(0, "ab", 0)], [0])]
        for words in ways:
            check_least(self, words)
            for other in ways:
                self.assertIs(words == other, True)
                self.assertIs(words != other, False)
                self.assertEqual((words.rows(), words.ends()), (other.rows(), other.ends()))
        self.assertNotEqual(ways[0], WordSet(2, 1, [(0, "ba", 0)], [0]))
        self.assertNotEqual(no_words(1), no_words(2))
        for value in [None, 1, "", [], ways[0].rows(), WRONG_SET]:
            self.assertIs(ways[0] == value, False)

    def test_words_in_sets(self):
        words = WordSet(2, 1, [(0, "ab", 0)], [0])
        self.assertIs("" in words, True)
        self.assertIs("ab" * 500 in words, True)
        self.assertIs("ab" * 499 + "ba" in words, False)
        self.assertIs("aAabBb" in words, True)
        for value in WRONG_WORD:
            error = told(words.__contains__, value)
            self.assertIs(type(error), InvalidWord)
            self.assertIs(error.value, value)

    def test_too_many_unlike_sets(self):
        # From state 0 a sign leads to each of nine parts, with 2 ** size sets each, and 3,000 in all.
        lanes, first = [], 1
        for sign, size in zip("cCdDeEfFA", (11, 9, 8, 7, 5, 4, 2, 1, 0)):
            lanes += [(0, sign, first)] + last_lanes(first, size)
            first += size + 1
        self.assertEqual(first, 57)
        self.assertEqual(check_quick(self, 5, WordSet, 6, 60, lanes, []), no_words(6))
        error = told(WordSet, 6, 60, lanes, [first - 1, 59])
        self.assertIsNone(error)
        more = lanes + [(0, "B", 58)]
        error = told(check_quick, self, 5, WordSet, 6, 60, more, [])
        self.assertEqual((type(error), error.value), (TooMany, 3001))
        # The same sets do not count twice, and places count.
        self.assertIsNone(told(WordSet, 6, 60, lanes + [(0, "B", first - 1)], []))
        error = told(WordSet, 6, 60, lanes + [(0, "Bb", 0)], [])
        self.assertEqual((type(error), error.value), (TooMany, 3001))
        self.assertEqual(told(WordSet, 2, 13, last_lanes(0, 12), [12]).value, 3001)
        self.assertEqual(told(WordSet, 2, 12, last_lanes(0, 11), [11]).value, 601)
        self.assertEqual(len(WordSet(2, 10, last_lanes(0, 9), [9]).rows()), 2 ** 9 + 1)

    def test_counts_of_unlike_sets(self):
        chance = chance_of(181)
        for _ in range(40):
            lanes = random_lanes(chance, 2, 4, 6, 3)
            self.assertLess(SlowSet(4, lanes, [0]).unlike_sets(2), 3001)
            self.assertIsNone(told(WordSet, 2, 4, lanes, [0]))
        self.assertEqual(SlowSet(8, last_lanes(0, 7), []).unlike_sets(2), 128)

    def test_six_hundred_states(self):
        long = [sign * 60 for sign in SIGNS[:10]]
        for size, states in ((8, 600), (9, 601), (60, 652)):
            words = long + ["f" * size]
            if states == 600:
                self.assertEqual(len(words_of(6, words).rows()), 600)
                self.assertEqual(words_of(6, words), words_of(6, words[:5]) | words_of(6, words[5:]))
                self.assertEqual(words_of(6, words) - words_of(6, words[:5]), words_of(6, words[5:]))
                self.assertEqual(words_of(6, words) & words_of(6, words[3:7]), words_of(6, words[3:7]))
            else:
                one, other = words_of(6, words[:5]), words_of(6, words[5:])
                for call in (lambda: words_of(6, words), lambda: one | other):
                    error = told(call)
                    self.assertEqual((type(error), error.value), (TooMany, 601))
        for one, other, states in ((23, 26, 599), (24, 25, 601), (25, 26, 651)):
            sets = [WordSet(1, 1, [(0, "a" * size, 0)], [0]) for size in (one, other)]
            if states <= 600:
                self.assertEqual(len((sets[0] & sets[1]).rows()), states)
            else:
                error = told(lambda: sets[0] & sets[1])
                self.assertEqual((type(error), error.value), (TooMany, 601))
        great = words_of(6, long + ["f" * 8])
        for call in (lambda: other_words(great), lambda: all_words(6) - great):
            error = told(check_quick, self, 5, call)
            self.assertEqual((type(error), error.value), (TooMany, 601))
        chance = chance_of(182)
        error = told(check_quick, self, 5, words_of, 6, [random_plain(chance, 6, 60) for _ in range(40)])
        self.assertEqual((type(error), error.value), (TooMany, 601))

    def test_many_states(self):
        chance = chance_of(183)
        for many in (1, 2, 3, 6):
            for size in (20, 60, 200):
                lanes = [(chance.randrange(60), random_word(chance, many, 200 // size), chance.randrange(60))
                         for _ in range(size)] + [(chance.randrange(60), "", chance.randrange(60)) for _ in range(20)]
                error = told(check_quick, self, 5, WordSet, many, 60, lanes, [0, 5, 59])
                self.assertTrue(error is None or error.value in (601, 3001))
        lanes = [(chance.randrange(60), "", chance.randrange(60)) for _ in range(300)]
        check_quick(self, 5, quiet_pairs, 6, 60, lanes)
        check_quick(self, 5, WordSet, 2, 2, [(0, "a" * 97, 0), (0, "A" * 89, 0), (0, "b", 1)], [1])

    def test_wrong(self):
        many, states = (0, InvalidNumber, WRONG_MANY), (1, InvalidNumber, WRONG_STATES)
        lanes = (2, InvalidList, WRONG_LANES)
        check_wrong(self, WordSet, [2, 2, [(0, "a", 1)], [1]], [many, states, lanes, (3, InvalidList, WRONG_ENDS)])
        check_wrong(self, quiet_pairs, [2, 2, [(0, "a", 1)]], [many, states, lanes])
        for call in (all_words, no_words):
            check_wrong(self, call, [2], [many])
        check_wrong(self, words_of, [2, ["a"]],
                    [many, (1, InvalidList, WRONG_WORDS + [["a"] * 41, ["a" * 61], ["b", "aA" * 30 + "a"]])])
        self.assertEqual(words_of(2, ["a"] * 39 + ["aA" * 30]), words_of(2, ["", "a"]))
        for call in (other_words,):
            check_wrong(self, call, [all_words(2)], [(0, InvalidMachine, WRONG_SET)])

    def test_objects_belong_to_themselves(self):
        lanes, ends = [(0, "ab", 1), (1, "", 0)], [1]
        words = WordSet(2, 2, lanes, ends)
        same = WordSet(2, 2, lanes, ends)
        lanes.append((0, "b", 1))
        ends.append(0)
        check_owned(self, words.rows)
        check_owned(self, words.ends)
        words.rows()[0][0] = 0
        words.ends().append(0)
        self.assertEqual(words, same)
        listed = ["a", "b"]
        words = words_of(2, listed)
        listed.append("ab")
        self.assertNotIn("ab", words)
        one, other = all_words(2), words_of(2, ["a"])
        both = [one & other, one | other, one - other, other_words(other)]
        for made in both:
            made.least_rows.append("spoiled")
            made.least_rows[0][0] = 99
        self.assertEqual((one, other), (all_words(2), words_of(2, ["a"])))
        check_owned(self, quiet_pairs, 2, 2, [(0, "ab", 1), (1, "BA", 0)])


class OperatorTest(unittest.TestCase):
    def pair(self, chance, many):
        """Two sets told by small machines."""
        found = []
        for _ in range(2):
            states = chance.randint(1, 4)
            lanes = random_lanes(chance, many, states, chance.randint(0, 6), 3)
            found.append(WordSet(many, states, lanes, sorted(chance.sample(range(states), chance.randint(0, states)))))
        return found

    def test_operators_against_words(self):
        chance = chance_of(184)
        for many, most in ((1, 9), (2, 4), (3, 3)):
            plain = plain_words(many, most)
            for _ in range(50):
                one, other = self.pair(chance, many)
                both, any_of, rest, others = one & other, one | other, one - other, other_words(one)
                for word in plain:
                    here, there = word in one, word in other
                    self.assertEqual([word in both, word in any_of, word in rest, word in others],
                                     [here and there, here or there, here and not there, not here])
                for words in (both, any_of, rest, others):
                    check_least(self, words)
                self.assertEqual(others, all_words(many) - one)
                self.assertEqual(other_words(others), one)
                self.assertEqual(any_of - rest, other)
                self.assertEqual(both, other & one)
                self.assertIs(within(one, other), rest.empty)
                self.assertIs(within(both, one) and within(one, any_of), True)
                self.check_first_unlike(one, other, plain)

    def check_first_unlike(self, one, other, plain):
        first = first_unlike_word(one, other)
        self.assertEqual(first_unlike_word(other, one), first)
        self.assertIs(first is None, one == other)
        slow = next((word for word in plain if (word in one) != (word in other)), None)
        if first is None or len(first) <= len(plain[-1]):
            self.assertEqual(first, slow)
        else:
            self.assertIsNone(slow)
            self.assertIs((first in one) != (first in other), True)

    def test_far_unlike_words(self):
        for size in (100, 199):
            one, other = [WordSet(1, 1, [(0, "a" * step, 0)], [0]) for step in (200, size)]
            self.assertEqual(first_unlike_word(one, other), "a" * size)
        one, other = WordSet(1, 2, [(0, "a" * 100, 0), (0, "A", 1)], [0]), WordSet(1, 2, [(0, "a" * 50, 0)], [0])
        self.assertEqual(first_unlike_word(one & other, one), None)
        self.assertIs(within(one, other), True)
        self.assertIs(within(other, one), False)
        one, other = WordSet(2, 10, last_lanes(0, 9), [9]), WordSet(2, 10, last_lanes(0, 9), [8])
        self.assertEqual(check_quick(self, 5, first_unlike_word, one, other), "a" * 8)
        self.assertIs(check_quick(self, 5, within, one, one), True)
        self.assertIs(check_quick(self, 5, within, one, all_words(2)), True)
        self.assertEqual(first_unlike_word(all_words(2), other_words(words_of(2, ["BAB"]))), "BAB")

    def test_other_numbers_of_letters(self):
        one = words_of(2, ["ab"])
        for other in UNLIKE_SETS:
            for call in (one.__and__, one.__or__, one.__sub__):
                error = told(call, other)
                self.assertIs(type(error), Unlike)
                self.assertIs(error.value, other)
        for call in (first_unlike_word, within):
            check_wrong(self, call, [one, all_words(2)],
                        [(0, InvalidMachine, WRONG_SET), (1, InvalidMachine, WRONG_SET), (1, Unlike, UNLIKE_SETS)])

    def test_sets_of_listed_words(self):
        chance = chance_of(185)
        for many in (1, 2, 6):
            for _ in range(30):
                listed = [random_word(chance, many, chance.randint(0, 8)) for _ in range(chance.randint(0, 40))]
                words = words_of(many, listed)
                check_least(self, words)
                self.assertIs(words.finite, True)
                self.assertIs(words.empty, listed == [])
                said = {say(word) for word in listed}
                self.assertTrue(all(word in words for word in listed))
                if many < 6:
                    self.assertEqual(set(words_in(words, 8 if many == 1 else 5)),
                                     {word for word in said if many == 1 or len(word) <= 5})
                machine = WordSet(many, 2, [(0, word, 1) for word in sorted(said, key=place)][:20], [1])
                self.assertEqual(machine, words_of(many, sorted(said, key=place)[:20]))
                self.assertIs(back(listed[0]) in words if listed else False,
                              bool(listed) and say(back(listed[0])) in said)

    def test_wrong_objects(self):
        check_error(self, other_words, [None], InvalidMachine, None)


if __name__ == "__main__":
    unittest.main()
