"""Tests of promises 29 to 32."""

import unittest

from signlanes.above import fringe
from signlanes.bases import basis
from signlanes.classes import class_of
from signlanes.classmeets import meet_word
from signlanes.errors import InvalidGroup, InvalidWord, TooMany, Unlike
from signlanes.groups import Group, belongs, group_of, is_picture
from signlanes.meets import (first_of_double, first_outside, index_in, inner_words, inside, joined, leaders_in, led,
                             led_meets, meet, through)
from signlanes.members import members_from
from signlanes.pictures import picture_rows
from tests.helpers import (UNLIKE_GROUPS, WRONG_GROUP, WRONG_WORD, back, chance_of, check_error, check_owned, check_quick,
                           check_wrong, full_picture, part_of_finite_index, pasted, place, plain_words, random_group,
                           random_plain, random_word, say, slow_member, told)

def inner_group(chance, other, size):
    """A group inside another one, made of products of its basis words."""
    words = basis(other)
    if not words:
        return Group(other.many(), [])
    made = []
    for _ in range(size):
        parts = [chance.choice([word, back(word)]) for word in (chance.choice(words) for _ in range(3))]
        made.append(say("".join(parts[:chance.randint(1, 3)])))
    return Group(other.many(), made)


def some_members(group):
    """Some words of a group."""
    return members_from(group, 0, 40)[::7] if group.rank() else [""]


class ExampleTest(unittest.TestCase):
    def test_examples(self):
        pairs, threes, every = Group(2, ["aa", "b"]), Group(2, ["aaa", "b"]), Group(2, ["a", "b"])
        six = Group(2, ["b", "aaaaaa"])
        half = Group(2, ["aa", "b", "abA"])
        self.assertEqual([meet(pairs, threes) == six, joined(pairs, threes) == every, inside(six, pairs),
                          inside(pairs, six), first_outside(pairs, threes)], [True, True, True, False, "aa"])
        self.assertEqual([index_in(six, pairs), index_in(half, every), leaders_in(half, every),
                          led(Group(2, ["b"]), "a") == Group(2, ["Aba"])], [None, 2, ["", "a"], True])
        self.assertEqual([led_meets(pairs, threes) == [("", six)], first_of_double(pairs, "a", threes),
                          led_meets(Group(2, ["a"]), Group(2, ["b"]))], [True, "", []])
        self.assertEqual([through(Group(3, ["aabb"]), Group(3, ["a", "b", "c"])) == Group(3, ["a", "b"]),
                          through(six, pairs) == pairs, through(six, threes) == threes], [True, True, True])

    def test_names_of_arguments(self):
        one, other = Group(2, ["aa", "b"]), Group(2, ["a", "b"])
        for call in (meet, joined, inside, first_outside, index_in, leaders_in, inner_words, led_meets):
            call(one=one, other=other)
        self.assertEqual(led(group=one, word="b"), one)
        self.assertEqual(first_of_double(one=one, word="a", other=other), "")
        self.assertEqual(through(group=one, other=other), other)


class MeetTest(unittest.TestCase):
    def test_meet_and_joined_against_slow(self):
        chance = chance_of(110)
        for many, most in ((1, 12), (2, 6), (3, 4)):
            words = plain_words(many, most)
            for _ in range(40):
                one, other = random_group(chance, many, 3, 4), random_group(chance, many, 3, 4)
                both, whole = meet(one, other), joined(one, other)
                self.assertTrue(is_picture(many, both.picture()) and is_picture(many, whole.picture()))
                rows, left, right = both.picture(), one.picture(), other.picture()
                for word in words:
                    self.assertIs(slow_member(rows, word), slow_member(left, word) and slow_member(right, word))
                self.assertEqual(whole.picture(), picture_rows(many, basis(one) + basis(other)))
                self.assertEqual((meet(other, one), joined(other, one)), (both, whole))

    def test_spots_of_meets(self):
        for size, step in ((17, 15), (20, 15), (20, 14), (100, 60), (150, 4)):
            one, other = Group(1, ["a" * size]), Group(1, ["a" * step])
            both = meet(one, other)
            self.assertTrue(belongs(both, "a" * len(both.picture())))
            self.assertEqual([len(both.picture()) % size, len(both.picture()) % step], [0, 0])
        self.assertEqual(len(meet(Group(1, ["a" * 100]), Group(1, ["a" * 3])).picture()), 300)
        for size, step, spots in ((43, 7, 301), (77, 76, 77 * 76)):
            for call in (meet,):
                error = told(call, Group(1, ["a" * size]), Group(1, ["a" * step]))
                self.assertEqual((type(error), error.value), (TooMany, spots))
        self.assertEqual(meet(Group(2, ["a" * 77]), Group(2, ["b" * 76])), Group(2, []))

    def test_spots_of_joined(self):
        for size, other in ((200, 101), (150, 151), (200, 100), (200, 102), (200, 200)):
            one, two = Group(2, ["a" * size]), Group(2, ["b" * other])
            if size + other - 1 > 300:
                error = told(joined, one, two)
                self.assertEqual((type(error), error.value), (TooMany, size + other - 1))
            else:
                self.assertEqual(len(joined(one, two).picture()), size + other - 1)
        self.assertEqual(joined(Group(1, ["a" * 200]), Group(1, ["a" * 150])), Group(1, ["a" * 50]))
        chance = chance_of(111)
        one, other = [group_of(6, full_picture(chance, 6, 300)) for _ in range(2)]
        whole = check_quick(self, 5, joined, one, other)
        self.assertTrue(inside(one, whole) and inside(other, whole))

    def test_inside_and_first_outside(self):
        chance = chance_of(112)
        for many, most in ((1, 10), (2, 6), (3, 4)):
            words = plain_words(many, most)
            for _ in range(60):
                other = random_group(chance, many, 3, 4)
                one = chance.choice([random_group(chance, many, 3, 4), inner_group(chance, other, 2), other])
                is_in = all(belongs(other, word) for word in basis(one))
                self.assertIs(inside(one, other), is_in)
                first = first_outside(one, other)
                if is_in:
                    self.assertIsNone(first)
                    continue
                self.assertEqual(say(first), first)
                self.assertTrue(belongs(one, first) and not belongs(other, first))
                for word in words:
                    if place(word) < place(first):
                        self.assertFalse(belongs(one, word) and not belongs(other, word))

    def test_great_first_outside(self):
        one, other = Group(1, ["a" * 75]), Group(1, ["a" * 74])
        self.assertEqual(first_outside(one, other), "a" * 75)
        one, other = Group(2, ["a" * 7]), Group(2, ["a" * 7, "b" * 200])
        self.assertIsNone(first_outside(one, other))
        self.assertEqual(first_outside(other, one), "b" * 200)
        chance = chance_of(113)
        one, other = group_of(3, full_picture(chance, 3, 300)), group_of(3, full_picture(chance, 3, 20))
        first = check_quick(self, 5, first_outside, one, other)
        self.assertTrue(belongs(one, first) and not belongs(other, first))
        self.assertIsNone(first_outside(Group(2, []), Group(2, [])))
        self.assertEqual(first_outside(Group(2, ["a" * 9]), Group(2, [])), "a" * 9)

    def test_wrong(self):
        kinds = [(0, InvalidGroup, WRONG_GROUP), (1, InvalidGroup, WRONG_GROUP), (1, Unlike, UNLIKE_GROUPS)]
        for call in (meet, joined, inside, first_outside, index_in, leaders_in, inner_words, led_meets, through):
            check_wrong(self, call, [Group(2, ["aa"]), Group(2, ["a"])], kinds)


class InsideTest(unittest.TestCase):
    def check_classes(self, one, other, words):
        index = index_in(one, other)
        found = check_owned(self, leaders_in, one, other)
        firsts = {}
        for word in words:
            if slow_member(other.picture(), word):
                firsts.setdefault(str(class_of(one, word)), word)
        if index is None:
            self.assertIsNone(found)
            return
        self.assertEqual(len(found), index)
        self.assertEqual(sorted(found, key=place), found)
        self.assertTrue(all(belongs(other, word) for word in found))
        self.assertEqual(len({str(class_of(one, word)) for word in found}), index)
        self.assertTrue(set(firsts.values()) <= set(found))
        self.assertEqual([word for word in found if len(word) <= len(words[-1])], list(firsts.values()))

    def test_finite_index(self):
        chance = chance_of(114)
        for many, most in ((1, 10), (2, 6), (3, 4)):
            words = plain_words(many, most)
            for _ in range(40):
                other = random_group(chance, many, 3, 4)
                if not 1 <= other.rank() <= 6:
                    continue
                index = chance.randint(1, 4)
                one = part_of_finite_index(chance, other, index)
                self.assertEqual(index_in(one, other), index)
                self.check_classes(one, other, words)

    def test_any_index(self):
        chance = chance_of(115)
        words = plain_words(2, 5)
        for _ in range(80):
            other = random_group(chance, 2, 3, 4)
            one = inner_group(chance, other, chance.randint(0, 3))
            self.check_classes(one, other, words)
            finite = index_in(one, other) is not None
            if other.rank() > 1 and finite:
                self.assertEqual(one.rank() - 1, index_in(one, other) * (other.rank() - 1))
            if other.rank() > 1 and one.rank() <= 1:
                self.assertFalse(finite)

    def test_small_ranks(self):
        none, ring = Group(2, []), Group(2, ["abA"])
        self.assertEqual([index_in(none, none), leaders_in(none, none)], [1, [""]])
        self.assertEqual([index_in(none, ring), leaders_in(none, ring)], [None, None])
        self.assertEqual([index_in(ring, ring), leaders_in(ring, ring)], [1, [""]])
        self.assertEqual(leaders_in(Group(2, ["abbbbA"]), ring), ["", "abA", "aBA", "abbA"])
        self.assertEqual(index_in(Group(2, ["a" * 90 + "bb" + "A" * 90]), Group(2, ["a" * 90 + "b" + "A" * 90])), 2)

    def test_great_pictures(self):
        chance = chance_of(116)
        group = group_of(6, full_picture(chance, 6, 300))
        every = Group(6, list("abcdef"))
        self.assertEqual(check_quick(self, 5, index_in, group, every), 300)
        leaders = check_quick(self, 5, leaders_in, group, every)
        self.assertEqual(sorted({class_of(group, word) for word in leaders}), [(spot, "") for spot in range(300)])
        hair = "b" * 99
        one, other = Group(2, [hair + "aa" + back(hair)]), Group(2, [hair + "a" + back(hair)])
        self.assertEqual(index_in(one, other), 2)
        self.assertEqual(leaders_in(one, other), ["", hair + "a" + back(hair)])

    def test_inner_words(self):
        chance = chance_of(117)
        for _ in range(60):
            other = random_group(chance, chance.randint(1, 3), 4, 4)
            if not 1 <= other.rank() <= 6:
                continue
            one = inner_group(chance, other, chance.randint(0, 3))
            found, words = inner_words(one, other), basis(other)
            self.assertEqual(found.many(), other.rank())
            self.assertTrue(is_picture(other.rank(), found.picture()))
            self.assertEqual(found.rank(), one.rank())
            for word in plain_words(other.rank(), 3):
                self.assertIs(belongs(found, word), belongs(one, pasted(words, word)))
            self.assertEqual(picture_rows(one.many(), [pasted(words, word) for word in basis(found)]), one.picture())

    def test_ranks_of_inner_words(self):
        none = Group(3, [])
        for rank in range(0, 8):
            words = ["a" * size + "b" + "A" * size for size in range(rank)]
            other, deep = Group(3, words), Group(3, words[:1])
            if 1 <= rank <= 6:
                self.assertEqual(inner_words(other, other), Group(rank, list("abcdef"[:rank])))
                self.assertEqual(inner_words(none, other), Group(rank, []))
                self.assertEqual(inner_words(deep, other), Group(rank, [["a", "A"][basis(other)[0] != "b"]]))
            else:
                check_error(self, inner_words, [none, other], InvalidGroup, other)
                # The rank is told ahead of whether one group is inside the other one.
                check_error(self, inner_words, [Group(3, ["ccc"]), other], InvalidGroup, other)

    def test_not_inside(self):
        one, other = Group(2, ["aaa", "b"]), Group(2, ["aa", "b"])
        for call in (index_in, leaders_in, inner_words, through):
            check_error(self, call, [one, other], Unlike, other)
            check_error(self, call, [Group(2, ["a", "b"]), other], Unlike, other)
            self.assertIsNone(told(call, Group(2, ["bb"]), other))


class LedTest(unittest.TestCase):
    def test_led_against_slow(self):
        chance = chance_of(118)
        for many, most in ((1, 8), (2, 5), (3, 3)):
            words = plain_words(many, most)
            for _ in range(40):
                group, word = random_group(chance, many, 3, 4), random_word(chance, many, chance.randint(0, 6))
                found = led(group, word)
                self.assertTrue(is_picture(many, found.picture()))
                for sought in words:
                    self.assertIs(slow_member(found.picture(), sought), belongs(group, say(word + sought + back(word))))
                self.assertEqual(led(found, back(word)), group)

    def test_long_words(self):
        group = Group(2, ["b"])
        for size, spots in ((299, 300), (300, 301), (1000, 1001)):
            word = "a" * size
            if spots > 300:
                error = told(led, group, word)
                self.assertEqual((type(error), error.value), (TooMany, spots))
            else:
                self.assertEqual(len(led(group, word).picture()), spots)
        self.assertEqual(led(group, "aA" * 500), group)
        self.assertEqual(led(group, "b" * 1000), group)
        chance = chance_of(119)
        full = group_of(6, full_picture(chance, 6, 300))
        self.assertEqual(len(check_quick(self, 5, led, full, random_plain(chance, 6, 1000)).picture()), 300)
        self.assertEqual(led(Group(3, []), "abcabc" * 100), Group(3, []))

    def test_wrong(self):
        check_wrong(self, led, [Group(2, ["aa"]), "a"], [(0, InvalidGroup, WRONG_GROUP), (1, InvalidWord, WRONG_WORD)])


class DoubleTest(unittest.TestCase):
    def test_first_of_double_against_slow(self):
        chance = chance_of(120)
        words = plain_words(2, 6)
        for _ in range(120):
            one, other = random_group(chance, 2, 2, 3), random_group(chance, 2, 2, 3)
            word = say(random_word(chance, 2, chance.randint(0, 5)))
            found = first_of_double(one, word, other)
            # A word is a product of one group, the word and the other group if what both words make of the
            # first group, led by the word, has a word of the other group.
            side = led(one, word)
            slow = next(sought for sought in words
                        if meet_word(side, back(word) + sought, other, "") is not None)
            self.assertEqual(found, slow)
            for left, right in zip(some_members(one), some_members(other)):
                self.assertEqual(first_of_double(one, say(left + word + right), other), found)

    def test_first_of_double(self):
        none, ring = Group(2, []), Group(2, ["ab"])
        self.assertEqual(first_of_double(none, "abBa", none), "aa")
        self.assertEqual(first_of_double(ring, "abababb", ring), "A")
        self.assertEqual(first_of_double(ring, "abababb", none), "b")
        self.assertEqual(first_of_double(Group(2, ["aB"]), "aaa", none), "aaa")
        self.assertEqual(first_of_double(none, "aaa", Group(2, ["aaaa"])), "A")
        self.assertEqual(first_of_double(Group(2, ["b"]), "B" * 500 + "a" + "b" * 400, Group(2, ["bbb"])), "ab")
        self.assertEqual(first_of_double(Group(2, ["ba"]), "bbAbaB", Group(2, ["bAAB", "a"])), "AbAbaB")
        chance = chance_of(121)
        group = group_of(6, full_picture(chance, 6, 300))
        word = random_plain(chance, 6, 1000)
        found = check_quick(self, 5, first_of_double, Group(6, ["ab", "cd"]), word, group)
        self.assertLess(len(found), 20)
        found = check_quick(self, 5, first_of_double, group, word, Group(6, ["ab", "cd"]))
        self.assertLess(len(found), 20)

    def test_wrong(self):
        check_wrong(self, first_of_double, [Group(2, ["aa"]), "a", Group(2, ["ab"])],
                    [(0, InvalidGroup, WRONG_GROUP), (1, InvalidWord, WRONG_WORD), (2, InvalidGroup, WRONG_GROUP),
                     (2, Unlike, UNLIKE_GROUPS)])


class LedMeetsTest(unittest.TestCase):
    def test_against_slow(self):
        chance = chance_of(122)
        words = plain_words(2, 4)
        for _ in range(60):
            one, other = random_group(chance, 2, 2, 3), random_group(chance, 2, 2, 3)
            found = led_meets(one, other)
            firsts = [word for word, _ in found]
            self.assertEqual(sorted(set(firsts), key=place), firsts)
            for word, group in found:
                self.assertEqual(first_of_double(one, word, other), word)
                self.assertEqual(group, meet(led(one, word), other))
                self.assertGreater(group.rank(), 0)
            for word in words:
                if meet(led(one, word), other).rank() > 0:
                    self.assertIn(first_of_double(one, word, other), firsts)
            if one.rank() and other.rank():
                total = sum(group.rank() - 1 for _, group in found)
                self.assertLessEqual(total, 2 * (one.rank() - 1) * (other.rank() - 1))

    def test_nothing_in_common(self):
        for one, other in ((["a"], ["b"]), ([], ["a", "b"]), (["a", "b"], []), ([], []), (["ab"], ["aab"]),
                           (["abA"], ["a"])):
            self.assertEqual(led_meets(Group(2, one), Group(2, other)), [])

    def test_powers(self):
        one, other = Group(1, ["a" * 6]), Group(1, ["a" * 4])
        self.assertEqual(led_meets(one, other), [("", Group(1, ["a" * 12])), ("a", Group(1, ["a" * 12]))])
        one = Group(2, ["b" * 30 + "aa" + "B" * 30])
        self.assertEqual(led_meets(one, Group(2, ["a"])), [("b" * 30, Group(2, ["aa"]))])

    def test_pairs_of_core_spots(self):
        self.assertEqual(len(led_meets(Group(1, ["a" * 15]), Group(1, ["a" * 20]))), 5)
        self.assertEqual(len(led_meets(Group(2, ["bb" + "a" * 15 + "BB"]), Group(2, ["a" * 20]))), 5)
        for one, other in ((["a" * 43], ["a" * 7]), (["a" * 43], ["b" * 7]), (["a" * 101], ["aaa"])):
            one, other = Group(2, one), Group(2, other)
            error = told(led_meets, one, other)
            self.assertEqual((type(error), error.value), (TooMany, 301))
        hairy = Group(2, ["b" * 50 + "a" * 20 + "B" * 50])
        self.assertEqual(len(check_quick(self, 5, led_meets, hairy, Group(2, ["a" * 15]))), 5)
        chance = chance_of(123)
        group = group_of(6, full_picture(chance, 6, 300))
        found = check_quick(self, 8, led_meets, group, Group(6, ["b" * 19 + "a" + "B" * 19]))
        self.assertTrue(all(part.rank() == 1 for _, part in found))

    def test_groups_with_too_many_spots(self):
        # What is in common has the hairs of both groups, one behind the other, and a ring of 300 spots.
        one, other = Group(2, ["a" * 20]), Group(2, ["bb" + "a" * 15 + "BB"])
        found = led_meets(one, other)
        self.assertEqual([word for word, _ in found], ["BB", "aBB", "ABB", "aaBB", "AABB"])
        self.assertEqual({len(group.picture()) for _, group in found}, {62})
        one, other = Group(2, ["a" * 25]), Group(2, ["b" * 10 + "a" * 12 + "B" * 10])
        error = told(led_meets, one, other)
        self.assertEqual((type(error), error.value), (TooMany, 310))
        one, other = Group(2, ["a" * 25]), Group(2, ["a" * 12])
        self.assertEqual([(word, len(group.picture())) for word, group in led_meets(one, other)], [("", 300)])

    def test_results_belong_to_the_caller(self):
        check_owned(self, led_meets, Group(2, ["aa", "b"]), Group(2, ["aaa", "b"]))


class ThroughTest(unittest.TestCase):
    def test_against_fringe(self):
        chance = chance_of(124)
        for _ in range(80):
            other = random_group(chance, 2, 3, 4)
            group = inner_group(chance, other, 2)
            found = through(group, other)
            self.assertTrue(is_picture(2, found.picture()))
            self.assertTrue(inside(group, found) and inside(found, other))
            self.assertEqual(through(found, other), found)
            if len(group.picture()) > 6:
                continue
            between = [part for part in fringe(group) if inside(part, other) and through(part, other) == part]
            unlike = [part for part in between if len(self.spots_led(part, other)) == len(part.picture())]
            self.assertEqual(unlike, [found])

    def spots_led(self, one, other):
        """The spots to which those of a picture go in another one."""
        goes, rows = {0: 0}, one.picture()
        for spot in range(len(rows)):
            for sign, end in enumerate(rows[spot]):
                if end is not None:
                    goes[end] = other.picture()[goes[spot]][sign]
        return set(goes.values())

    def test_great_pictures(self):
        chance = chance_of(125)
        group = group_of(6, full_picture(chance, 6, 300))
        every = Group(6, list("abcdef"))
        self.assertEqual(check_quick(self, 5, through, group, every), every)
        self.assertEqual(through(group, group), group)
        self.assertEqual(through(Group(2, ["ab" * 100]), Group(2, ["a", "b"])), Group(2, ["a", "b"]))
        self.assertEqual(through(Group(2, ["ab" * 100]), Group(2, ["ab", "ba", "aa"])), Group(2, ["ab"]))
        self.assertEqual(through(Group(2, []), Group(2, ["a", "b"])), Group(2, []))


if __name__ == "__main__":
    unittest.main()
