"""Tests of promises 56 and 57."""

import unittest

from signlanes.errors import InvalidList, InvalidNumber, TooMany, Unlike
from signlanes.leastrows import least
from signlanes.ledrows import is_led, level_rows, rows_led
from signlanes.roundrows import is_cut, row_moved, row_of, undoing
from tests.helpers import (ODD, WRONG_MANY, chance_of, check_error, check_owned, check_quick, check_wrong, place,
                           random_plain, told)
from tests.test_leastrows import size, tangled
from tests.test_roundrows import NO_CUT, WRONG_ROUND, all_cuts, all_renamings, random_cut, random_row

# Rows of which more than 600 are led to one another by cuts that leave the size as it is.
WIDE = ["a", "b", "c", "a"]


def slow_level(many, row):
    """All rows of the level, by all cuts and renamings one by one."""
    cuts = all_cuts(many) + all_renamings(many)
    found, waiting = {tuple(row)}, [row]
    while waiting and len(found) <= 600:
        at = waiting.pop()
        for cut in cuts:
            led = row_moved(many, at, cut)
            if size(led) == size(at) and tuple(led) not in found:
                found.add(tuple(led))
                waiting.append(led)
    return sorted((list(led) for led in found), key=lambda led: [place(word) for word in led])


def after(many, row, cuts):
    """The row behind cuts, and the greatest size on the way."""
    most = size(row)
    for cut in cuts:
        if most > 900:
            return None, most
        row = row_moved(many, row, cut)
        most = max(most, size(row))
    return row, most


class ExampleTest(unittest.TestCase):
    def test_examples(self):
        self.assertEqual([level_rows(2, ["a"]), rows_led(2, ["aab"], ["abAB"]),
                          is_led(2, ["ab"], ["b"], ("led", [("a", "aB")])), rows_led(2, ["aa"], ["aB"])],
                         [[["a"], ["A"], ["b"], ["B"]], ("sizes", 1, 4), True, ("sizes", 2, 1)])

    def test_names_of_arguments(self):
        self.assertEqual(level_rows(many=1, row=["a"]), [["a"], ["A"]])
        self.assertEqual(rows_led(many=1, one=["a"], other=["a"]), ("led", []))
        self.assertIs(is_led(many=1, one=["a"], other=["a"], value=("led", [])), True)


class LevelRowTest(unittest.TestCase):
    def test_against_slow(self):
        chance = chance_of(270)
        sizes = set()
        for many, times in ((1, 10), (2, 30), (3, 14)):
            for _ in range(times):
                _, row = least(many, random_row(chance, many, 6))
                slow = slow_level(many, row)
                if len(slow) > 600:
                    error = told(level_rows, many, row)
                    self.assertEqual((type(error), error.value), (TooMany, 601))
                    continue
                found = check_owned(self, level_rows, many, row)
                self.assertEqual(found, slow)
                self.assertIn(row, found)
                self.assertEqual(level_rows(many, chance.choice(found)), found)
                sizes.add(len(found))
        self.assertGreater(len(sizes), 8)

    def test_edges(self):
        self.assertEqual(level_rows(1, ["a", "AA"]), [["a", "AA"], ["A", "aa"]])
        self.assertEqual(level_rows(2, ["abAB"]), [["abAB"], ["aBAb"]])
        self.assertEqual(len(level_rows(3, ["a"])), 6)
        self.assertEqual(len(level_rows(3, ["a", "b"])), 24)
        self.assertEqual(len(level_rows(3, ["a", "b", "c"])), 48)

    def test_rows_that_are_not_least(self):
        for many, row in ((2, ["ab"]), (2, ["aab"]), (3, ["abc"]), (2, ["a", "ab"]), (3, ["abcABC", "abc"])):
            check_error(self, level_rows, [many, row], InvalidList, row)

    def test_wide_levels(self):
        chance = chance_of(271)
        wide = 0
        for _ in range(60):
            _, row = least(3, random_row(chance, 3, 5))
            error = check_quick(self, 5, told, level_rows, 3, row)
            if error is not None:
                self.assertEqual((type(error), error.value), (TooMany, 601))
                wide += 1
        self.assertGreater(wide, 0)
        for row in (["aabbcc", "aa"], ["aaaabbbbcccc"], ["aaabbbccc", "aabbcc"]):
            row = least(3, row_of(3, row))[1]
            found = told(check_quick, self, 5, level_rows, 3, row)
            slow = slow_level(3, row)
            self.assertEqual(found is not None, len(slow) > 600)
            self.assertTrue(found is not None or level_rows(3, row) == slow)

    def test_just_as_many_rows_as_may_be(self):
        for many, times in ((2, 74), (3, 24)):
            row, longer = (row_of(many, ["a", "a" + "b" * times]) for times in (times, times + 1))
            found = check_quick(self, 5, level_rows, many, row)
            self.assertEqual(len(found), 600)
            self.assertEqual(found, sorted(found, key=lambda led: [place(word) for word in led]))
            self.assertEqual(len({tuple(led) for led in found}), 600)
            self.assertTrue(all(size(led) == size(row) for led in found))
            error = told(level_rows, many, longer)
            self.assertEqual((type(error), error.value), (TooMany, 601))
            found = rows_led(many, row, row[::-1])
            self.assertIs(is_led(many, row, row[::-1], found) and found[0] == "led", True)
            apart = ["aa", "b" * times]
            found = rows_led(many, row, apart)
            self.assertEqual((found[0], len(found[1])), ("apart", 600))
            self.assertIs(is_led(many, row, apart, found), True)
            # Only the rows of the first row are counted.
            apart = ["aa", "b" * (times + 1)]
            self.assertIs(type(told(rows_led, many, longer, apart)), TooMany)
            self.assertIs(type(told(is_led, many, longer, apart, found)), TooMany)
            self.assertEqual(rows_led(many, apart, longer), ("apart", level_rows(many, apart)))

    def test_limits(self):
        chance = chance_of(272)
        for many in (1, 2, 3):
            for count in (1, 4):
                row = least(many, row_of(many, [random_plain(chance, many, 200 // count) for _ in range(count)]))[1]
                check_quick(self, 5, told, level_rows, many, row)
        row = least(3, row_of(3, ["aabb" * 20 + "cc" * 40, "aa" * 20]))[1]
        check_quick(self, 8, told, level_rows, 3, row)

    def test_wrong(self):
        check_wrong(self, level_rows, [2, ["abAB"]],
                    [(0, InvalidNumber, WRONG_MANY), (1, InvalidList, WRONG_ROUND + [["ab"], ["aab"]])])


class RowsLedTest(unittest.TestCase):
    def check(self, many, one, other):
        """Check what is told of two rows, and return its kind."""
        error = told(rows_led, many, one, other)
        firsts = [least(many, row)[1] for row in (one, other)]
        if error is not None:
            self.assertEqual((type(error), error.value), (TooMany, 601))
            self.assertEqual(size(firsts[0]), size(firsts[1]))
            self.assertIs(type(told(level_rows, many, firsts[0])), TooMany)
            self.assertIs(type(told(is_led, many, one, other, ("apart", []))), TooMany)
            return "many"
        found = check_owned(self, rows_led, many, one, other)
        self.assertIs(is_led(many, one, other, found), True)
        if found[0] == "sizes":
            self.assertEqual(found, ("sizes", size(firsts[0]), size(firsts[1])))
            self.assertNotEqual(found[1], found[2])
        elif found[0] == "apart":
            self.assertEqual(size(firsts[0]), size(firsts[1]))
            self.assertEqual(found, ("apart", level_rows(many, firsts[0])))
            self.assertNotIn(firsts[1], found[1])
        else:
            self.assertEqual((len(found), found[0]), (2, "led"))
            self.assertLessEqual(len(found[1]), 3000)
            self.assertTrue(all(is_cut(many, cut) for cut in found[1]))
            row, most = after(many, one, found[1])
            self.assertEqual(row, other)
            self.assertLessEqual(most, max(size(one), size(other)))
        return found[0]

    def test_rows_that_are_led(self):
        chance = chance_of(273)
        kinds = []
        for _ in range(120):
            many = chance.randint(1, 3)
            row = random_row(chance, many, 6)
            one, other = tangled(chance, many, row, 40), tangled(chance, many, row, 40)
            kinds.append(self.check(many, one, other))
        self.assertLessEqual(set(kinds), {"led", "many"})
        self.assertGreater(kinds.count("led"), 100)

    def test_other_rows(self):
        chance = chance_of(274)
        kinds = []
        for _ in range(200):
            many, count = chance.randint(1, 3), chance.randint(1, 3)
            rows = []
            while len(rows) < 2:
                row = random_row(chance, many, 6)
                if len(row) >= count:
                    rows.append(row[:count])
            kinds.append(self.check(many, *rows))
            if kinds[-1] in ("sizes", "apart"):
                self.assertIn(self.check(many, *rows[::-1]), (kinds[-1], "many" if kinds[-1] == "apart" else "sizes"))
        self.assertGreater(min(kinds.count(kind) for kind in ("led", "sizes", "apart")), 10)

    def test_edges(self):
        for many, one, other, kind in ((1, ["a"], ["A"], "led"), (1, ["a", "A"], ["A", "A"], "apart"),
                                       (1, ["a"], ["aa"], "sizes"), (2, ["aa", "b"], ["b", "aa"], "apart"),
                                       (2, ["aab"], ["B"], "led"), (2, ["abAB"], ["abAB"], "led"),
                                       (2, ["aabb"], ["abAB"], "apart"), (2, ["aabb"], ["aaBB"], "led"),
                                       (2, ["aabb"], ["abAb"], "led"), (3, ["abc"], ["C"], "led"),
                                       (3, ["a", "a"], ["a", "b"], "apart"), (3, ["a", "b"], ["B", "abc"], "led"),
                                       (2, ["a", "b"], ["a", "ab"], "led"), (2, ["a", "b"], ["a", "abb"], "sizes")):
            self.assertEqual(self.check(many, one, other), kind)
        self.assertEqual(rows_led(2, ["abAB"], ["abAB"]), ("led", []))
        self.assertEqual(rows_led(2, ["aabb"], ["abAB"]), ("apart", level_rows(2, ["aabb"])))
        self.assertEqual(rows_led(2, ["aB"], ["aa"]), ("sizes", 1, 2))

    def test_levels_with_too_many_rows(self):
        chance = chance_of(275)
        tried = 0
        while tried < 3:
            row = least(3, random_row(chance, 3, 6))[1]
            if told(level_rows, 3, row) is None:
                continue
            tried += 1
            cut = next(cut for cut in all_cuts(3) if size(row_moved(3, row, cut)) > size(row))
            greater = row_moved(3, row, cut)
            for one, other, cuts in ((row, row, []), (row, greater, [cut]), (greater, row, [undoing(3, cut)])):
                self.assertEqual(self.check(3, one, other), "many")
                self.assertIs(is_led(3, one, other, ("led", cuts)), True)
                self.assertIs(is_led(3, one, other, ("led", cuts + [None])), False)
                self.assertIs(is_led(3, one, other, ("sizes", size(row), size(row))), False)
                self.assertIs(type(told(is_led, 3, one, other, ("apart", None))), TooMany)
                for value in (("apart",), ("apart", [], []), ["apart", []], None, ("other", [])):
                    self.assertIs(is_led(3, one, other, value), False)
            self.assertEqual(rows_led(3, row, ["a"] * len(row))[0], "sizes")
            self.assertIs(is_led(3, row, ["a"] * len(row), ("apart", [])), False)

    def test_limits(self):
        chance = chance_of(276)
        for many, row in ((3, ["aabbcc"]), (3, ["abcABC", "ab"]), (2, ["aabb", "abAB"]), (3, ["abAB", "ac"]), (3, ["a"])):
            row = least(many, row_of(many, row))[1]
            one, other = tangled(chance, many, row, 200), tangled(chance, many, row, 200)
            found = check_quick(self, 8, rows_led, many, one, other)
            self.assertEqual(found[0], "led")
            self.assertIs(check_quick(self, 8, is_led, many, one, other, found), True)
            check_quick(self, 8, is_led, many, one, other, ("apart", []))
        rows = [row_of(3, [random_plain(chance, 3, 50) for _ in range(4)]) for _ in range(2)]
        check_quick(self, 8, told, rows_led, 3, *rows)
        one = row_of(2, ["a" + "b" * 199])
        found = check_quick(self, 8, rows_led, 2, one, row_of(2, ["b" + "a" * 199]))
        self.assertEqual(after(2, one, found[1])[0], row_of(2, ["b" + "a" * 199]))
        self.assertIs(is_led(2, one, row_of(2, ["b" + "a" * 199]), found), True)

    def test_wrong(self):
        unlike = [["a"], ["a", "b", "a"], ["A"]]
        check_wrong(self, rows_led, [2, ["a", "b"], ["b", "a"]],
                    [(0, InvalidNumber, WRONG_MANY), (1, InvalidList, WRONG_ROUND), (2, InvalidList, WRONG_ROUND),
                     (2, Unlike, unlike)])


class IsLedTest(unittest.TestCase):
    def test_bent_cuts(self):
        chance = chance_of(277)
        for _ in range(60):
            many = chance.randint(2, 3)
            row = random_row(chance, many, 4)
            one, other = tangled(chance, many, row, 30), tangled(chance, many, row, 30)
            if told(rows_led, many, one, other):
                continue
            cuts = rows_led(many, one, other)[1]
            most = max(size(one), size(other))
            at = chance.randrange(len(cuts) + 1)
            for bent in (cuts[:at] + cuts[at + 1:], cuts[:at] + [random_cut(chance, many)] + cuts[at:], cuts[::-1],
                         cuts + ["bac"[:many]], cuts[:at], [undoing(many, cut) for cut in cuts]):
                behind, greatest = after(many, one, bent)
                self.assertIs(is_led(many, one, other, ("led", bent)), behind == other and greatest <= most)
            for value in NO_CUT[12:24] if many == 2 else (None, ("a", "b"), "ab"):
                self.assertIs(is_led(many, one, other, ("led", cuts[:at] + [value] + cuts[at:])), False)

    def test_greater_rows_on_the_way(self):
        cut, behind = ("a", "ab"), ("A", "Ab")
        self.assertEqual([row_moved(2, ["b"], cut), row_moved(2, ["ab"], behind)], [["ab"], ["b"]])
        self.assertIs(is_led(2, ["b"], ["b"], ("led", [cut, behind])), False)
        self.assertIs(is_led(2, ["ab"], ["b"], ("led", [behind])), True)
        self.assertIs(is_led(2, ["ab"], ["ab"], ("led", [behind, cut])), True)
        self.assertIs(is_led(2, ["ab"], ["ab"], ("led", [behind, cut, cut, behind])), False)
        self.assertIs(is_led(2, ["b"], ["ab"], ("led", [cut])), True)

    def test_numbers_of_cuts(self):
        self.assertIs(check_quick(self, 5, is_led, 2, ["ab"], ["ab"], ("led", ["ab"] * 3000)), True)
        self.assertIs(is_led(2, ["ab"], ["ab"], ("led", ["ab"] * 3001)), False)
        self.assertIs(is_led(2, ["ab"], ["ab"], ("led", ["Ab", "Ab"] * 1500)), True)

    def test_sizes(self):
        for one, other, value, right in ((["aab"], ["abAB"], ("sizes", 1, 4), True), (["aab"], ["abAB"], ("sizes", 4, 1), False),
                                         (["abAB"], ["ab"], ("sizes", 4, 1), True), (["aab"], ["abAB"], ("sizes", 3, 4), False),
                                         (["ab"], ["b"], ("sizes", 1, 1), False), (["aab"], ["abAB"], ("sizes", True, 4), False),
                                         (["aab"], ["abAB"], ("sizes", 1, "4"), False), (["aab"], ["abAB"], ("sizes", 1), False),
                                         (["aab"], ["abAB"], ("sizes", 1, 4, 4), False), (["aab"], ["abAB"], ["sizes", 1, 4], False),
                                         (["aab"], ["abAB"], ("size", 1, 4), False), (["aab"], ["abAB"], ("sizes", (1, 4)), False),
                                         (["aab"], ["abAB"], ("sizes", [1], [4]), False), (["aab"], ["abAB"], ("sizes", None, 4), False)):
            self.assertIs(is_led(2, one, other, value), right)

    def test_rows_apart(self):
        one, other = ["aabb"], ["abAB"]
        _, rows = rows_led(2, one, other)
        self.assertIs(is_led(2, one, other, ("apart", rows)), True)
        # Which least row it is does not matter.
        for row in rows:
            self.assertIs(is_led(2, row, other, ("apart", [list(led) for led in rows])), True)
        longer = row_moved(2, one, ("b", "ab"))
        self.assertIs(is_led(2, longer, other, ("apart", rows)), True)
        for value in (("apart", rows[1:]), ("apart", rows[::-1]), ("apart", rows + [["abAB"]]), ("apart", tuple(rows)),
                      ("apart", [tuple(row) for row in rows]), ("apart", rows + rows[:1]), ("apart", []), ["apart", rows],
                      ("apart", rows, rows), ("apart", None), ("led", rows), ("apart", level_rows(2, other)), ("apart",),
                      ("apart", [row[0] for row in rows])):
            self.assertIs(is_led(2, one, other, value), False)
        self.assertIs(is_led(2, other, one, ("apart", rows)), False)
        self.assertIs(is_led(2, one, one, ("apart", rows)), False)
        self.assertIs(is_led(2, one, ["a"], ("apart", rows)), False)
        self.assertIs(is_led(2, one, other, ("sizes", 4, 4)), False)

    def test_other_values(self):
        for value in ODD + [0, "", "led", ("led",), ("led", []), ("led", None), ["led", ["ba"]], ("led", ("ba",)),
                            ("led", "ba"), ("led", ["ba"], ["ba"]), (None, ["ba"]), (["led"], ["ba"]), ("Led", ["ba"]),
                            ("led", [["ba"]]), (0, 1, 2), ("led", {"ba": 1}), ("led", [None]), ("", ["ba"])]:
            self.assertIs(is_led(2, ["a"], ["b"], value), False)
        self.assertIs(is_led(2, ["a"], ["b"], ("led", ["ba"])), True)

    def test_wrong(self):
        unlike = [["a"], ["a", "b", "a"], ["A"]]
        check_wrong(self, is_led, [2, ["a", "b"], ["b", "a"], ("led", ["ba"])],
                    [(0, InvalidNumber, WRONG_MANY), (1, InvalidList, WRONG_ROUND), (2, InvalidList, WRONG_ROUND),
                     (2, Unlike, unlike)])


if __name__ == "__main__":
    unittest.main()
