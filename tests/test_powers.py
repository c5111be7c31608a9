"""Tests of promises 38 and 39."""

import math
import unittest

from signlanes.errors import InvalidGroup, InvalidList, InvalidWord
from signlanes.groups import Group, group_of
from signlanes.members import members_from
from signlanes.powers import least_power, line_meet, power_line
from tests.helpers import (WRONG_GROUP, WRONG_WORD, back, chance_of, check_error, check_quick, check_wrong,
                           full_picture, random_group, random_plain, random_word, say, slow_member)

EMPTY = ["", "aA", "abBA", "bB" * 500]
NO_LINE = [True, False, 0, 1, "", "a", (), [], [1, 2], (1,), (1, 2, 3), (1, -1), (0, -5), (2, 2), (3, 2), (-1, 2),
           (1, None), (None, 1), (True, 2), (0, True), (False, 0), ("0", 1), (0, "1"), ((0, 1),), [(0, 1)], {0: 1},
           (10 ** 29, 10 ** 29), (-10 ** 29, 10 ** 29), ([0], 1), Group(1, ["a"])]


def power(word, times):
    """The product of a word taken so many times, of its opposite for a number below 0."""
    return say(word * times if times >= 0 else back(word) * -times)


def on_line(number, line):
    """Whether a line has a number."""
    if line is None:
        return False
    first, step = line
    return number == first if step == 0 else number % step == first


class ExampleTest(unittest.TestCase):
    def test_examples(self):
        two, one = Group(2, ["aa", "b", "abA"]), Group(2, ["ab"])
        self.assertEqual([least_power(two, "ab"), least_power(one, "BA"), least_power(one, "a"),
                          power_line(two, "a", "a", ""), power_line(one, "", "a", "b"),
                          power_line(one, "a", "ab", "B")], [2, 1, None, (1, 2), (1, 0), None])
        self.assertEqual([line_meet((1, 2), (2, 3)), line_meet((1, 2), (0, 4)), line_meet((1, 2), (-5, 0))],
                         [(5, 6), None, (-5, 0)])

    def test_names_of_arguments(self):
        one = Group(2, ["ab"])
        self.assertEqual(least_power(group=one, word="ab"), 1)
        self.assertEqual(power_line(group=one, left="", word="ab", right=""), (0, 1))
        self.assertEqual(line_meet(one=(0, 1), other=None), None)


class LeastPowerTest(unittest.TestCase):
    def test_against_slow(self):
        chance = chance_of(160)
        for many in (1, 2, 3):
            for _ in range(120):
                group, word = random_group(chance, many, 3, 4), random_word(chance, many, chance.randint(1, 6))
                if chance.random() < 0.4 and group.rank():
                    word = say(back(word) + chance.choice(members_from(group, 1, 20)) + word)
                    word = word[:chance.randint(1, len(word))] if word else "a"
                if say(word) == "":
                    continue
                rows = group.picture()
                slow = next((times for times in range(1, len(rows) + 1) if slow_member(rows, word * times)), None)
                self.assertEqual(least_power(group, word), slow)
                self.assertEqual(least_power(group, back(word)), slow)
                self.assertEqual(least_power(group, "aA" + word + "Aa"), slow)

    def test_up_to_the_number_of_spots(self):
        for size in (1, 7, 200):
            self.assertEqual(least_power(Group(1, ["a" * size]), "a"), size)
            self.assertEqual(least_power(Group(1, ["a" * size]), "A" * 3), size // math.gcd(size, 3))
        self.assertEqual(least_power(Group(2, ["b" * 90 + "a" * 20 + "B" * 90]), "b" * 90 + "aaa" + "B" * 90), 20)
        self.assertIsNone(least_power(Group(2, ["b" * 90 + "a" * 20 + "B" * 90]), "b" * 89 + "aaa" + "B" * 89))
        self.assertIsNone(least_power(Group(3, []), "abc"))
        chance = chance_of(161)
        group = group_of(6, full_picture(chance, 6, 300))
        for _ in range(4):
            word = random_plain(chance, 6, 1000)
            times = check_quick(self, 5, least_power, group, word)
            self.assertLessEqual(times, 300)
            self.assertTrue(slow_member(group.picture(), word * times))

    def test_wrong(self):
        check_wrong(self, least_power, [Group(2, ["aa"]), "a"],
                    [(0, InvalidGroup, WRONG_GROUP), (1, InvalidWord, WRONG_WORD + EMPTY)])


class PowerLineTest(unittest.TestCase):
    def check_line(self, group, left, word, right, most):
        line = power_line(group, left, word, right)
        self.assertIn(type(line), (tuple, type(None)))
        rows = group.picture()
        for times in range(-most, most + 1):
            self.assertIs(slow_member(rows, left + power(word, times) + right), on_line(times, line))
        if line is not None and line[1] > 0:
            self.assertTrue(0 <= line[0] < line[1])
            self.assertEqual(line[1], least_power(group, left + word + back(left)))
        elif line is not None:
            self.assertIsNone(least_power(group, left + word + back(left)))
            self.assertTrue(slow_member(rows, left + power(word, line[0]) + right))
        return line

    def test_against_slow(self):
        chance = chance_of(162)
        kinds = set()
        for many in (1, 2, 3):
            for _ in range(150):
                group = random_group(chance, many, 3, 4)
                left, word, right = [random_word(chance, many, chance.randint(0, 4)) for _ in range(3)]
                if say(word) == "":
                    continue
                if chance.random() < 0.6:
                    member = chance.choice(members_from(group, 0, 12)) if group.rank() else ""
                    right = say(back(power(word, chance.randint(-4, 4))) + back(left) + member)
                line = self.check_line(group, left, word, right, 12)
                kinds.add((line is None, line is not None and line[1] > 0, line is not None and line[0] < 0))
        self.assertEqual(len(kinds), 4)

    def test_kinds_of_lines(self):
        none, ring = Group(2, []), Group(2, ["a" * 6])
        self.assertEqual(power_line(none, "", "a", ""), (0, 0))
        self.assertEqual(power_line(none, "a" * 7, "a", ""), (-7, 0))
        self.assertEqual(power_line(none, "", "a", "A" * 7), (7, 0))
        self.assertIsNone(power_line(none, "a", "aa", ""))
        self.assertIsNone(power_line(none, "a", "b", ""))
        self.assertEqual(power_line(ring, "a", "a", ""), (5, 6))
        self.assertEqual(power_line(ring, "a", "aa", "a"), (2, 3))
        self.assertIsNone(power_line(ring, "a", "aa", ""))
        self.assertEqual(power_line(ring, "b", "a", "AAB"), (2, 0))
        self.assertEqual(power_line(ring, "", "A", "aa"), (2, 6))
        self.assertEqual(power_line(Group(2, ["a", "b"]), "ab", "bbb", "A"), (0, 1))
        self.assertEqual(power_line(Group(2, ["b"]), "a", "Aba", "A"), (0, 1))

    def test_far_numbers(self):
        group = Group(2, ["b"])
        self.assertEqual(power_line(group, "a" * 200, "a", "A" * 3), (-197, 0))
        self.assertEqual(power_line(group, "a" * 3, "a", "A" * 200), (197, 0))
        self.assertEqual(power_line(group, "a" * 3, "A", "A" * 200), (-197, 0))
        self.assertEqual(power_line(group, "ab" * 100, "Ba", "bb"), None)
        self.assertEqual(power_line(group, "ab" * 100, "BA", ""), (100, 0))
        self.assertEqual(power_line(Group(1, ["a" * 200]), "a" * 99, "a", "a"), (100, 200))
        chance = chance_of(163)
        full = group_of(6, full_picture(chance, 6, 300))
        words = [random_plain(chance, 6, 200) for _ in range(3)]
        line = check_quick(self, 5, power_line, full, *words)
        if line is not None:
            self.assertTrue(slow_member(full.picture(), words[0] + words[1] * line[0] + words[2]))

    def test_wrong(self):
        check_wrong(self, power_line, [Group(2, ["aa"]), "a", "b", "a"],
                    [(0, InvalidGroup, WRONG_GROUP), (1, InvalidWord, WRONG_WORD), (2, InvalidWord, WRONG_WORD + EMPTY),
                     (3, InvalidWord, WRONG_WORD)])


class LineMeetTest(unittest.TestCase):
    def test_against_slow(self):
        lines = [None] + [(first, 0) for first in range(-4, 5)]
        lines += [(first, step) for step in range(1, 7) for first in range(step)]
        for one in lines:
            for other in lines:
                found = line_meet(one, other)
                for number in range(-70, 71):
                    self.assertIs(on_line(number, found), on_line(number, one) and on_line(number, other))
                if found is not None:
                    self.assertTrue(found[1] == 0 or 0 <= found[0] < found[1] <= 30)
                self.assertEqual(line_meet(other, one), found)

    def test_great_numbers(self):
        chance = chance_of(164)
        for _ in range(300):
            steps = [chance.randrange(1, 10 ** chance.choice((1, 5, 15, 30))) for _ in range(2)]
            if chance.random() < 0.5:
                shared = chance.randrange(1, 10 ** 9)
                steps = [step % 10 ** 20 * shared + shared for step in steps]
            number = chance.randrange(-10 ** 30, 10 ** 30)
            one, other = [(number % step, step) for step in steps]
            found = line_meet(one, other)
            self.assertEqual(found[1], math.lcm(*steps))
            self.assertTrue(on_line(number, found) and 0 <= found[0] < found[1])
            shift = chance.randrange(steps[1])
            moved = ((number + shift) % steps[1], steps[1])
            self.assertIs(line_meet(one, moved) is None, shift % math.gcd(*steps) != 0)
            self.assertEqual(line_meet((number, 0), one), (number, 0))
            self.assertEqual(line_meet(one, (number, 0)), (number, 0))
            self.assertIs(line_meet(other, (number + shift, 0)) is None, shift % steps[1] != 0)
        self.assertEqual(line_meet((10 ** 30 - 2, 10 ** 30 - 1), (0, 1)), (10 ** 30 - 2, 10 ** 30 - 1))

    def test_wrong(self):
        for value in NO_LINE:
            for right in (None, (5, 0), (1, 2)):
                check_error(self, line_meet, [value, right], InvalidList, value)
                check_error(self, line_meet, [right, value], InvalidList, value)
            check_error(self, line_meet, [value, (2, 2)], InvalidList, value)
        self.assertIsNone(line_meet(None, None))


if __name__ == "__main__":
    unittest.main()
