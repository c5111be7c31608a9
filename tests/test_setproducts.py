"""Tests of promise 43."""

import unittest
from unittest import mock

from signlanes.bases import basis
from signlanes.classmeets import in_double
from signlanes.errors import InvalidGroup, InvalidList, InvalidMachine, InvalidNumber, InvalidWord, TooMany, Unlike
from signlanes.groups import Group, belongs, group_of
from signlanes.meets import first_of_double, joined
from signlanes.pictures import picture_rows
from signlanes.setproducts import (all_products, double_class, group_words, images, is_group, led_into, made_group,
                                   opposites, products)
from signlanes.wordsets import WordSet, all_words, no_words, within, words_of
from tests.helpers import (ODD, UNLIKE_GROUPS, WRONG_GROUP, WRONG_MANY, WRONG_SET, WRONG_WORD, back, chance_of,
                           check_error, check_quick, check_wrong, full_picture, pasted, plain_words, random_group,
                           random_list, random_plain, random_word, say, told)
from tests.machines import check_least, lanes_said, random_lanes, words_in

UNLIKE_SETS = [words_of(1, ["a"]), no_words(3), all_words(6)]

# Where each letter leads from each of 11 states. If the letters become words of two letters, the words
# lead to hundreds of thousands of sets of places.
MANY_SETS = [[1, 2, 1, 3, 0, 0], [3, 4, 5, 6, 4, 6], [7, 8, 9, 2, 7, 2], [2, 8, 9, 2, 9, 3],
             [0, 2, 6, 9, 6, 1], [9, 9, 7, 9, 1, 5], [0, 1, 3, 0, 8, 8], [8, 3, 3, 6, 2, 7],
             [7, 5, 6, 4, 6, 10], [10, 5, 0, 6, 6, 3], [10, 8, 10, 2, 9, 9]]


def small_set(chance, many):
    """A set whose least machine has at most 12 states, with lanes that lead to words of it."""
    while True:
        states = chance.randint(1, 4)
        lanes = random_lanes(chance, many, states, chance.randint(0, 6), 3)
        ends = sorted(chance.sample(range(states), chance.randint(0, states)))
        words = WordSet(many, states, lanes, ends)
        if len(words.rows()) <= 12:
            return words, lanes, ends


class ExampleTest(unittest.TestCase):
    def test_examples(self):
        threes, even = WordSet(1, 1, [(0, "aaa", 0)], [0]), group_words(Group(1, ["aa"]))
        self.assertEqual([threes.rows(), threes.ends(), even.rows(), even.ends(), "aaaa" in even, "aAA" in even,
                          threes.finite],
                         [[[1, 2], [3, 2], [2, 2], [0, 2]], [0], [[1, 2], [3, 4], [4, 5], [1, 4], [4, 4], [4, 2]],
                          [0, 3, 5], True, False, False])
        self.assertEqual([products(words_of(2, ["ab"]), words_of(2, ["B", "A"])) == words_of(2, ["a", "abA"]),
                          all_products(words_of(1, ["aa", "A"])) == all_words(1),
                          opposites(threes) == WordSet(1, 1, [(0, "AAA", 0)], [0])], [True, True, True])
        self.assertEqual([is_group(threes), is_group(threes | opposites(threes)), made_group(threes) == Group(1, ["aaa"]),
                          is_group(no_words(2))], [False, True, True, False])
        side, led = double_class(Group(2, ["a"]), "b", Group(2, ["b"])), led_into(Group(2, ["aa"]), "bbaaBB")
        self.assertEqual(["aab" in side, "a" in side, "ba" in side, "bbA" in led, "b" in led,
                          images(2, ["ab"], threes) == WordSet(2, 1, [(0, "ababab", 0)], [0])],
                         [True, True, False, True, False, True])

    def test_names_of_arguments(self):
        words, group = words_of(1, ["a"]), Group(1, ["a"])
        self.assertEqual(products(one=words, other=words), words_of(1, ["aa"]))
        self.assertEqual(opposites(words=words), words_of(1, ["A"]))
        self.assertEqual(all_products(words=words), WordSet(1, 1, [(0, "a", 0)], [0]))
        self.assertEqual(group_words(group=group), all_words(1))
        self.assertEqual(made_group(words=words), group)
        self.assertIs(is_group(words=words), False)
        self.assertEqual(double_class(one=group, word="a", other=group), all_words(1))
        self.assertEqual(led_into(group=group, word="a"), all_words(1))
        self.assertEqual(images(many=2, words=["b"], given=words), words_of(2, ["b"]))


class ProductTest(unittest.TestCase):
    def test_finite_sets(self):
        chance = chance_of(190)
        for many in (1, 2, 3):
            for _ in range(60):
                one, other = [random_list(chance, many, 4, 4) for _ in range(2)]
                found = products(words_of(many, one), words_of(many, other))
                self.assertEqual(found, words_of(many, sorted({say(left + right) for left in one for right in other})))
                self.assertEqual(opposites(words_of(many, one)), words_of(many, [back(word) for word in one]))
                pasting = [random_word(chance, 2, chance.randint(0, 4)) for _ in range(many)]
                self.assertEqual(images(2, pasting, words_of(many, one)),
                                 words_of(2, [pasted(pasting, word) for word in one]))

    def test_sets_without_end(self):
        chance = chance_of(191)
        for many in (1, 2, 2):
            for _ in range(40):
                (one, lanes, ends), (other, more, more_ends) = small_set(chance, many), small_set(chance, many)
                found, back_set, many_products = products(one, other), opposites(one), all_products(one)
                lefts, rights = lanes_said(chance, lanes, ends, 9), lanes_said(chance, more, more_ends, 9)
                self.assertTrue(all(left + right in found for left in lefts for right in rights))
                self.assertTrue(all(back(left) in back_set for left in lefts))
                self.assertTrue(all(left + right + left in many_products for left in lefts for right in lefts))
                self.assertEqual(opposites(back_set), one)
                self.assertEqual(opposites(found), products(opposites(other), back_set))
                self.assertEqual(products(many_products, many_products), many_products)
                self.assertTrue(within(one, many_products))
                self.assertEqual(all_products(many_products), many_products)
                for words in (found, back_set, many_products):
                    check_least(self, words)
                self.check_parts(one, other, found)

    def check_parts(self, one, other, found):
        """Check that words of the product of sets are products, as far as short factors show."""
        lefts = words_in(one, 9 if one.many() == 1 else 5)
        missing = [word for word in words_in(found, 2) if not any(back(left) + word in other for left in lefts)]
        self.assertEqual(missing, [])

    def test_special_sets(self):
        chance = chance_of(192)
        only, none = words_of(2, [""]), no_words(2)
        for _ in range(20):
            words, _, _ = small_set(chance, 2)
            self.assertEqual([products(words, only), products(only, words)], [words, words])
            self.assertEqual([products(words, none), products(none, words)], [none, none])
            self.assertEqual(products(words, all_words(2)), none if words.empty else all_words(2))
        self.assertEqual([opposites(none), opposites(only), opposites(all_words(2))], [none, only, all_words(2)])
        self.assertEqual([all_products(none), all_products(only), all_products(all_words(2))],
                         [only, only, all_words(2)])
        self.assertEqual([images(3, ["a", "c"], none), images(3, ["a", "c"], only)], [no_words(3), words_of(3, [""])])
        self.assertEqual(images(1, ["", "aA"], all_words(2)), words_of(1, [""]))
        self.assertEqual(images(1, ["a", "AA"], all_words(2)), all_words(1))
        self.assertEqual([made_group(none), made_group(only)], [Group(2, []), Group(2, [])])
        self.assertEqual([is_group(none), is_group(only), is_group(all_words(2))], [False, True, True])

    def test_all_products_of_listed_words(self):
        chance = chance_of(193)
        for many in (1, 2, 3):
            for _ in range(30):
                listed = random_list(chance, many, 3, 3)
                group = Group(many, listed)
                both = words_of(many, listed + [back(word) for word in listed])
                self.assertEqual(all_products(both), group_words(group))
        self.assertEqual(words_in(all_products(words_of(1, ["aaa", "aaaaa"])), 8),
                         ["", "aaa", "aaaaa", "aaaaaa", "aaaaaaaa"])
        self.assertEqual(all_products(words_of(1, ["aaa", "AAAAA"])), all_words(1))

    def test_limits(self):
        # The machine of words whose sixth sign is an `a` has few states, that of their opposites many.
        for size, states in ((5, None), (9, 601)):
            lanes = [(at, sign, at + 1) for at in range(size) for sign in "ab"] + [(size, "a", size + 1)]
            words = WordSet(2, size + 2, lanes + [(size + 1, sign, size + 1) for sign in "ab"], [size + 1])
            self.assertEqual(len(words.rows()), size + 3)
            error = told(check_quick, self, 5, opposites, words)
            self.assertEqual(None if error is None else (type(error), error.value),
                             None if states is None else (TooMany, states))
        chance = chance_of(194)
        for many in (2, 3, 6):
            for _ in range(6):
                states = 10
                lanes = [(chance.randrange(states), sign, chance.randrange(states)) for sign in "abAcC"[:2 * many]
                         for _ in range(3)]
                words = told(WordSet, many, states, lanes, [0, 1])
                words = WordSet(many, states, lanes, [0, 1]) if words is None else words_of(many, ["a"])
                if len(words.rows()) <= 12:
                    for call in (lambda: products(words, words), lambda: all_products(words), lambda: opposites(words),
                                 lambda: images(3, ["abca", "bB", "cccc", "A", "ab", ""][:many], words)):
                        error = told(check_quick, self, 8, call)
                        self.assertTrue(error is None or error.value == 601)

    def test_too_many_states_are_told_early_and_rightly(self):
        chance = chance_of(203)
        for _ in range(150):
            many, into = chance.randint(1, 3), chance.randint(1, 3)
            (one, _, _), (other, _, _) = small_set(chance, many), small_set(chance, many)
            pasting = [random_word(chance, into, chance.randint(0, 4)) for _ in range(many)]
            for call in (lambda: products(one, other), lambda: opposites(one), lambda: all_products(one),
                         lambda: images(into, pasting, one)):
                size = len(call().rows())
                for most in (size, size - 1):
                    # With a lesser bound, and looking at once, it has to be told just beyond the bound.
                    with mock.patch("signlanes.quiets.FIRST_LOOK", 0), \
                            mock.patch("signlanes.quiets.MOST_STATES", most), \
                            mock.patch("signlanes.machines.MOST_STATES", most):
                        error = told(call)
                    self.assertEqual(error is None, most == size)

    def test_six_hundred_states(self):
        # Sets of the words whose sign with a number from the end is an `a`.
        loops = [(0, "a", 0), (0, "b", 0)]
        for size in (7, 9, 10):
            chain = [(at, sign, at + 1) for at in range(1, size) for sign in "ab"]
            behind = WordSet(2, size + 1, [(0, "a", 1)] + chain, [size])
            marked = WordSet(3, size + 1, loops + [(0, "c", 1)] + chain, [size])
            self.assertLessEqual(max(len(words.rows()) for words in (behind, marked)), 12)
            for call in (lambda: products(WordSet(2, 1, loops, [0]), behind),
                         lambda: images(2, ["a", "b", "a"], marked)):
                if size < 10:
                    self.assertEqual(len(call().rows()), 2 ** size + 1)
                else:
                    error = told(call)
                    self.assertEqual((type(error), error.value), (TooMany, 601))

    def test_states_of_great_results(self):
        chance, told_some = chance_of(205), 0
        for _ in range(30):
            full, other = group_of(2, full_picture(chance, 2, 12)), Group(2, [random_plain(chance, 2, 6)] * 2)
            word = random_plain(chance, 2, chance.randint(1, 9))
            for call in (lambda: led_into(full, word), lambda: double_class(other, word, full),
                         lambda: group_words(full), lambda: led_into(full, "a" * 12)):
                with mock.patch("signlanes.quiets.MOST_STATES", 10 ** 6), \
                        mock.patch("signlanes.machines.MOST_STATES", 10 ** 6):
                    size = len(check_quick(self, 8, call).rows())
                error = told(check_quick, self, 8, call)
                self.assertEqual(None if error is None else (type(error), error.value),
                                 None if size <= 600 else (TooMany, 601))
                told_some += size > 600
        self.assertGreater(told_some, 3)

    def test_far_too_many_states(self):
        lanes = [(state, letter, end) for state, row in enumerate(MANY_SETS) for letter, end in zip("abcdef", row)]
        words = WordSet(6, 11, lanes, [2, 8, 10])
        self.assertEqual(len(words.rows()), 12)
        error = told(check_quick, self, 4, images, 2, ["aabb", "aaba", "b", "bbaa", "aaab", "abba"], words)
        self.assertEqual((type(error), error.value), (TooMany, 601))
        chance = chance_of(204)
        for _ in range(40):
            lanes = [(state, letter, chance.randrange(11)) for state in range(11) for letter in "abcdef"]
            words = WordSet(6, 11, lanes, [0, 5])
            pasting = ["".join(chance.choice("ab") for _ in range(chance.randint(1, 4))) for _ in range(6)]
            for call in (lambda: images(2, pasting, words), lambda: products(words, words)):
                error = told(check_quick, self, 5, call)
                self.assertTrue(error is None or error.value == 601)

    def test_wrong(self):
        one, other = words_of(2, ["ab"]), all_words(2)
        first = (0, InvalidMachine, WRONG_SET)
        check_wrong(self, products, [one, other], [first, (1, InvalidMachine, WRONG_SET), (1, Unlike, UNLIKE_SETS)])
        for call in (opposites, all_products, made_group, is_group):
            check_wrong(self, call, [one], [first])


class GroupWordsTest(unittest.TestCase):
    def test_group_words(self):
        chance = chance_of(195)
        for many, most in ((1, 8), (2, 5), (3, 3)):
            plain = plain_words(many, most)
            for _ in range(40):
                group = random_group(chance, many, 3, 5)
                words = group_words(group)
                check_least(self, words)
                self.assertEqual([word in words for word in plain], [belongs(group, word) for word in plain])
                self.assertIs(words.finite, group.rank() == 0)
                self.assertEqual(made_group(words), group)
                self.assertIs(is_group(words), True)
                self.assertEqual([opposites(words), products(words, words), all_products(words)], [words] * 3)

    def test_sixty_spots(self):
        chance = chance_of(196)
        group = Group(2, ["a" * 30 + "b" * 30])
        words = check_quick(self, 5, group_words, group)
        self.assertEqual(check_quick(self, 5, made_group, words), group)
        self.assertIs(check_quick(self, 5, is_group, words), True)
        group = group_of(2, full_picture(chance, 2, 60))
        words = check_quick(self, 5, group_words, group)
        self.assertEqual((len(words.rows()), made_group(words)), (242, group))
        error = told(check_quick, self, 5, group_words, group_of(6, full_picture(chance, 6, 60)))
        self.assertEqual((type(error), error.value), (TooMany, 601))
        self.assertEqual(len(group_words(group_of(5, full_picture(chance, 5, 59))).rows()), 592)
        error = told(group_words, group_of(5, full_picture(chance, 5, 60)))
        self.assertEqual((type(error), error.value), (TooMany, 601))

    def test_made_group(self):
        chance = chance_of(197)
        for many in (1, 2, 3):
            for _ in range(40):
                listed = random_list(chance, many, 5, 6)
                self.assertEqual(made_group(words_of(many, listed)), Group(many, listed))
                words, lanes, ends = small_set(chance, many)
                group, rows = made_group(words), words.rows()
                self.assertTrue(all(belongs(group, word) for word in lanes_said(chance, lanes, ends, 20)))
                # All words that lead through no state more than twice make the group.
                found = words_in(words, 2 * len(rows) if many == 1 else 6)
                if many == 1 or len(rows) <= 3:
                    self.assertEqual(group.picture(), picture_rows(many, found))
                self.assertTrue(within(words, group_words(group)))

    def test_spots_of_made_groups(self):
        for size, spots in ((4, 299), (5, 300), (6, 301), (7, 302)):
            words = words_of(6, [sign * 60 for sign in "abcde"] + ["f" * size])
            error = told(made_group, words)
            if spots <= 300:
                self.assertEqual(len(made_group(words).picture()), spots)
            else:
                self.assertEqual((type(error), error.value), (TooMany, spots))
            self.assertIs(is_group(words), False)

    def test_is_group(self):
        chance = chance_of(198)
        for _ in range(60):
            group = random_group(chance, 2, 2, 4)
            words, word = group_words(group), random_word(chance, 2, 3)
            self.assertIs(is_group(words - words_of(2, [""])), False)
            self.assertIs(is_group(words | words_of(2, [word])), belongs(group, word))
            self.assertIs(is_group(words - words_of(2, [word])), not belongs(group, word))
            other, _, _ = small_set(chance, 2)
            self.assertIs(is_group(other), not other.empty and products(other, opposites(other)) == other)
            both = group_words(random_group(chance, 2, 2, 3))
            self.assertIs(is_group(words & both), True)
            if not within(words, both) and not within(both, words):
                self.assertIs(is_group(words | both), False)

    def test_double_classes(self):
        chance = chance_of(199)
        for many, most in ((1, 7), (2, 4), (3, 3)):
            plain = plain_words(many, most)
            for _ in range(40):
                one, other = random_group(chance, many, 2, 4), random_group(chance, many, 2, 4)
                word, sought = random_word(chance, many, chance.randint(0, 5)), random_word(chance, many, 3)
                words = double_class(one, word, other)
                check_least(self, words)
                self.assertEqual([found in words for found in plain],
                                 [in_double(one, word, other, found) for found in plain])
                self.assertIn(first_of_double(one, word, other), words)
                self.assertEqual(opposites(words), double_class(other, back(word), one))
                self.assertEqual(words, products(products(group_words(one), words_of(many, [word])),
                                                 group_words(other)))
                second = double_class(one, sought, other)
                self.assertIs(words == second, not (words & second).empty)
                self.assertIs(words == second, sought in words)
                self.assertEqual(made_group(double_class(one, "", other)), joined(one, other))

    def test_great_double_classes(self):
        chance = chance_of(200)
        for many in (2, 3):
            for _ in range(4):
                one, other = [Group(many, [random_plain(chance, many, 6) for _ in range(2)]) for _ in range(2)]
                word = random_plain(chance, many, 60)
                words = check_quick(self, 8, double_class, one, word, other)
                self.assertTrue(all(left + word + right in words for left in [""] + basis(one)
                                    for right in [""] + basis(other)))
                full = group_of(many, full_picture(chance, many, 12))
                words = check_quick(self, 8, double_class, full, word, one)
                # The least machine of the opposites may have far more states.
                error = told(opposites, words)
                if error is None:
                    self.assertEqual(check_quick(self, 8, double_class, one, back(word), full), opposites(words))
                else:
                    self.assertEqual(error.value, 601)
                    self.assertIs(type(told(check_quick, self, 8, double_class, one, back(word), full)), TooMany)

    def test_led_into(self):
        chance = chance_of(201)
        for many, most in ((1, 6), (2, 4), (3, 3)):
            plain = plain_words(many, most)
            for _ in range(60):
                group, word = random_group(chance, many, 2, 4), random_word(chance, many, chance.randint(0, 5))
                if chance.random() < 0.5 and group.rank():
                    lead = random_word(chance, many, 2)
                    word = lead + basis(group)[0] + back(lead)
                words = led_into(group, word)
                check_least(self, words)
                self.assertEqual([found in words for found in plain],
                                 [belongs(group, back(found) + word + found) for found in plain])
        for word in ("", "aA", "abBA"):
            self.assertEqual(led_into(Group(2, []), word), all_words(2))
        self.assertEqual(led_into(Group(2, []), "a"), no_words(2))
        self.assertEqual(led_into(Group(2, ["a", "b"]), "ab"), all_words(2))
        for many in (2, 3, 6):
            group = group_of(many, full_picture(chance, many, 12))
            error = told(check_quick, self, 8, led_into, group, random_plain(chance, many, 60))
            self.assertTrue(error is None or error.value == 601)

    def test_images(self):
        chance = chance_of(202)
        for many in (1, 2, 3):
            for _ in range(40):
                group, into = random_group(chance, many, 2, 3), chance.randint(1, 3)
                pasting = [random_word(chance, into, chance.randint(0, 4)) for _ in range(many)]
                given = group_words(group)
                if len(given.rows()) > 12:
                    continue
                found = images(into, pasting, given)
                self.assertEqual(found, group_words(Group(into, [pasted(pasting, word) for word in basis(group)][:12])))
                words, lanes, ends = small_set(chance, many)
                found = images(into, pasting, words)
                check_least(self, found)
                self.assertTrue(all(pasted(pasting, word) in found for word in lanes_said(chance, lanes, ends, 9)))
                lanes = [(one, pasted(pasting, word), other) for one, word, other in lanes]
                states = max([0] + ends + [max(one, other) for one, _, other in lanes]) + 1
                if sum(len(word) for _, word, _ in lanes) <= 200:
                    self.assertEqual(found, WordSet(into, states, lanes, ends))

    def test_wrong(self):
        group = Group(2, ["ab"])
        first, word = (0, InvalidGroup, WRONG_GROUP), (1, InvalidWord, WRONG_WORD)
        check_wrong(self, group_words, [group], [first])
        check_wrong(self, double_class, [group, "a", Group(2, ["b"])],
                    [first, word, (2, InvalidGroup, WRONG_GROUP), (2, Unlike, UNLIKE_GROUPS)])
        check_wrong(self, led_into, [group, "a"], [first, word])

    def test_wrong_images(self):
        given = words_of(2, ["ab"])
        wrong = ODD + [0, "", "ab", ("a", "b"), [], ["a"], ["a", "b", "a"], ["a", None], ["a", "c"], ["a", ["b"]],
                       ["aaaaa", "b"], ["a", "aAaAa"], ["a", 1], [["a", "b"]], ["a", "b c"]]
        check_wrong(self, images, [2, ["a", "bbbb"], given], [(0, InvalidNumber, WRONG_MANY)])
        for value in WRONG_SET:
            check_error(self, images, [2, ["a", "b"], value], InvalidMachine, value)
            # The set is looked at ahead of the list.
            check_error(self, images, [2, [None], value], InvalidMachine, value)
        for value in wrong:
            check_error(self, images, [2, value, given], InvalidList, value)
        check_error(self, images, [7, None, None], InvalidNumber, 7)
        words = ["a", "b", "c"]
        check_error(self, images, [3, words, given], InvalidList, words)
        self.assertEqual(images(3, ["cccc", "aAbB"], given), words_of(3, ["cccc"]))


if __name__ == "__main__":
    unittest.main()
