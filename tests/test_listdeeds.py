"""Tests of promises 62 to 64."""

import unittest

from signlanes.errors import InvalidDeed, InvalidGroup, InvalidList, InvalidNumber, InvalidPaper, Unlike
from signlanes.groups import Group, belongs, way
from signlanes.listdeeds import changed, is_deed, keeps_group, paper_behind, spots_led
from signlanes.meets import inside, meet
from signlanes.papers import is_paper, paper, said
from tests.helpers import (ODD, WRONG_GROUP, WRONG_LIST, WRONG_MANY, back, chance_of, check_error, check_owned,
                           check_quick, check_wrong, part_of_finite_index, pasted, random_group, random_list,
                           random_plain, random_word, say, slow_picture)

ROW = ["ab", "b", "aA"]
# No deeds on a list of three words for two letters.
NO_DEED = ODD + [0, "", "take", ["take", 0], (), ("take",), ("take", 3), ("take", -1), ("take", True), ("take", "0"),
                 ("take", None), ("take", 0, 0), ("take", [0]), ("Take", 0), ("takes", 0), (0, "take"),
                 ("put", 0), ("put", 0, "a", 1), ("put", 4, "a"), ("put", -1, "a"), ("put", True, "a"), ("put", False, ""),
                 ("put", 0, "c"), ("put", 0, None), ("put", 0, 1), ("put", 0, ["a"]), ("put", "a", 0), ("put", 0, "a" * 201),
                 ("put", 0, "a b"), ("put", 0, "a" * 1001), ("put", None, "a"), ("oppose",), ("oppose", 3), ("oppose", False),
                 ("oppose", -1), ("oppose", 0, 1), ("opposite", 0), ("exchange", 0), ("exchange", 0, 0), ("exchange", 0, 3),
                 ("exchange", 3, 0), ("exchange", 0, True), ("exchange", False, 1), ("exchange", 0, 1, 1),
                 ("exchange", [0], 1), ("times", 0, 1), ("times", 0, 0, 1), ("times", 0, 1, 0), ("times", 0, 1, 2),
                 ("times", 0, 1, True), ("times", 0, 1, "1"), ("times", 0, 1, None), ("times", 0, 3, 1), ("times", -1, 1, 1),
                 ("times", True, 0, 1), ("times", 0, False, 1), ("times", 0, 1, -2), ("times", 0, 1, 1, 1),
                 ("times", 0, 1, [1]), ("lead",), ("lead", "c"), ("lead", 0), ("lead", None), ("lead", "a", "b"),
                 ("lead", ["a"]), ("lead", "a" * 1001), ("lead", "a" * 100), ("change",), ("change", "ab"),
                 ("change", ("a", "b")), ("change", ["a"]), ("change", ["a", "b", "a"]), ("change", ["a", "c"]),
                 ("change", ["a", None]), ("change", []), ("change", ["a", "b"], 1), ("change", "a", "b"),
                 ("change", [["a"], "b"]), ("change", ["a" * 201, "b"]), ("change", ["a" * 200, "b"]),
                 (None, 0), (("take",), 0), (["take"], 0), [("take", 0)], (("take", 0),), ("word", 0), ("", 0)]
OTHER_DEEDS = [("put", 0, "a"), ("take", 0), ("lead", "a"), ("change", ["b", "a"])]
NO_PAPER = [None, True, 0, "", (), {}, [None], [()], [(0, 1)], [[0, 1]], [[(3, 1)]], [[(0, 1)], [(4, 1)]], [[(0, 2)]],
            [[(0, True)]], [[(0, 0)]], [[(-1, 1)]], [[(True, 1)]], [[(0, 1, 1)]], [[(0, 1)] * 13], [[(0, 1)], None],
            [[[0, 1]]], ([(0, 1)],)]


def random_deed(chance, many, words):
    """A deed of any kind, right or wrong in what it makes."""
    size = len(words)
    at, other = chance.randint(0, max(0, size - 1)), chance.randint(0, max(0, size - 1))
    return chance.choice([("put", chance.randint(0, size), random_word(chance, many, chance.randint(0, 5))), ("take", at),
                          ("oppose", at), ("exchange", at, other), ("times", at, other, chance.choice((1, -1))),
                          ("lead", random_word(chance, many, chance.randint(0, 3))),
                          ("change", [random_word(chance, many, chance.randint(0, 3)) for _ in range(many)])])


def slow_changed(words, deed):
    """The list that a deed makes, by its explanation; None if it names what there is not, or makes too much."""
    kind, row = deed[0], [say(word) for word in words]
    if kind == "put":
        row.insert(deed[1], say(deed[2]))
    elif kind == "lead":
        row = [say(back(deed[1]) + word + deed[1]) for word in row]
    elif kind == "change":
        row = [pasted([say(word) for word in deed[1]], word) for word in row]
    else:
        places = deed[1:2] if kind in ("take", "oppose") else deed[1:3]
        if max(places) >= len(row) or len(set(places)) < len(places):
            return None
        one, other = places[0], places[-1]
        if kind == "take":
            del row[one]
        elif kind == "oppose":
            row[one] = back(row[one])
        elif kind == "exchange":
            row[one], row[other] = row[other], row[one]
        else:
            row[one] = say(row[one] + (row[other] if deed[3] == 1 else back(row[other])))
    return row if len(row) <= 12 and max(map(len, row), default=0) <= 200 else None


class ExampleTest(unittest.TestCase):
    def test_examples(self):
        self.assertEqual([changed(2, ["ab", "b"], ("times", 0, 1, -1)), changed(2, ["ab", "b"], ("lead", "a")),
                          changed(2, ["ab", "b"], ("change", ["ba", "A"]))], [["a", "b"], ["ba", "Aba"], ["b", "A"]])
        self.assertEqual([changed(2, ["aA", "b"], ("oppose", 1)), keeps_group(2, ["a", "b"], ("put", 0, "abA")),
                          keeps_group(2, ["a", "b"], ("take", 0))], [["", "B"], True, False])
        led = paper_behind(2, ["ab", "b"], ("times", 0, 1, -1), [[(0, 1), (0, 1)]])
        self.assertEqual([said(2, ["a", "b"], led)[-1], spots_led(Group(2, ["aaaa"]), Group(2, ["aa", "b"])),
                          spots_led(Group(1, ["aa"]), Group(1, ["aaa"]))], ["abab", [0, 1, 1, 0], None])

    def test_names_of_arguments(self):
        self.assertIs(is_deed(many=1, words=["a"], value=("take", 0)), True)
        self.assertEqual(changed(many=1, words=["a"], deed=("take", 0)), [])
        self.assertIs(keeps_group(many=1, words=["a"], deed=("take", 0)), False)
        self.assertEqual(paper_behind(many=1, words=["a"], deed=("oppose", 0), paper=[]), [])
        self.assertEqual(spots_led(one=Group(1, []), other=Group(1, ["a"])), [0])


class DeedTest(unittest.TestCase):
    def test_against_slow(self):
        chance = chance_of(300)
        kinds = {}
        for _ in range(900):
            many = chance.randint(1, 4)
            words = random_list(chance, many, 11, 6)
            deed = random_deed(chance, many, words)
            expected = slow_changed(words, deed)
            self.assertIs(is_deed(many, words, deed), expected is not None)
            if expected is None:
                check_error(self, changed, [many, words, deed], InvalidDeed, deed)
                check_error(self, keeps_group, [many, words, deed], InvalidDeed, deed)
                continue
            self.assertEqual(check_owned(self, changed, many, words, deed), expected)
            same = slow_picture(many, expected) == slow_picture(many, words)
            self.assertIs(keeps_group(many, words, deed), same)
            if deed[0] in ("oppose", "exchange", "times"):
                self.assertTrue(same)
            kinds.setdefault(deed[0], set()).add(same)
        self.assertEqual({kind: len(found) for kind, found in kinds.items()},
                         {"put": 2, "take": 2, "oppose": 1, "exchange": 1, "times": 1, "lead": 2, "change": 2})

    def test_no_deeds(self):
        for value in NO_DEED:
            self.assertIs(is_deed(2, ROW, value), False, value)
            check_error(self, changed, [2, ROW, value], InvalidDeed, value)
        for deed in (("put", 3, "a"), ("put", 0, ""), ("put", 1, "aA" * 500), ("take", 2), ("oppose", 2), ("exchange", 2, 0),
                     ("times", 2, 0, -1), ("lead", ""), ("change", ["", "aA"])):
            self.assertIs(is_deed(2, ROW, deed), True)

    def test_lists_that_take_no_more(self):
        full = ["a"] * 12
        for at in (0, 11, 12):
            self.assertIs(is_deed(1, full, ("put", at, "a")), False)
            self.assertEqual(changed(1, full[1:], ("put", min(at, 11), "A"))[min(at, 11)], "A")
        for deed in (("take", 11), ("exchange", 11, 0), ("times", 11, 0, 1), ("oppose", 11), ("lead", "a")):
            self.assertIs(is_deed(1, full, deed), True)
        self.assertIs(is_deed(1, [], ("take", 0)), False)
        self.assertIs(is_deed(1, [], ("put", 0, "a")), True)
        self.assertIs(is_deed(1, [], ("put", 1, "a")), False)
        self.assertEqual([changed(1, [], ("lead", "a")), changed(1, [], ("change", ["a"]))], [[], []])
        self.assertIs(keeps_group(1, [], ("put", 0, "aA")), True)

    def test_long_words(self):
        long = ["a" * 200, "b" * 100, "bb"]
        for deed, right in ((("times", 1, 1, 1), False), (("times", 0, 1, 1), False), (("times", 1, 2, -1), True),
                            (("put", 0, "a" * 200), True), (("put", 0, "a" * 201), False),
                            (("put", 0, "b" + "aA" * 450 + "b"), True), (("put", 0, "aA" * 501), False),
                            (("lead", "a"), True), (("lead", "b"), False), (("lead", "ab"), False),
                            (("lead", "aB" * 400 + "bA" * 400), False), (("lead", "bB" * 450 + "a"), True),
                            (("change", ["a", "bb"]), True), (("change", ["a", "bbb"]), False),
                            (("change", ["aa", "b"]), False), (("change", ["", "aA"]), True),
                            (("change", ["b" + "a" + "B", "b"]), False), (("change", ["B", "A"]), True)):
            self.assertIs(is_deed(2, long, deed), right, deed)
        self.assertEqual(changed(2, long, ("change", ["", "aA"])), ["", "", ""])
        self.assertIs(is_deed(2, ["b", "a" * 200], ("times", 0, 1, 1)), False)
        self.assertEqual(changed(2, ["bA", "a" * 200], ("times", 0, 1, 1))[0], "b" + "a" * 199)
        self.assertEqual(changed(2, ["a"], ("lead", "b" * 98 + "a"))[0], "A" + "B" * 98 + "a" + "b" * 98 + "a")
        self.assertIs(is_deed(2, ["a"], ("lead", "b" * 99 + "a")), False)
        self.assertIs(is_deed(2, ["a"], ("lead", "b" * 100)), False)

    def test_pictures_of_any_size(self):
        chance = chance_of(301)
        words = [random_plain(chance, 2, 199) for _ in range(11)]
        spare = ("put", 11, words[0] + back(words[1])[:1] + "bB" * 3)
        for deed in (("times", 0, 1, 1), ("oppose", 3), ("exchange", 10, 2)):
            if is_deed(2, words, deed):
                self.assertIs(check_quick(self, 5, keeps_group, 2, words, deed), True)
        self.assertIs(check_quick(self, 5, keeps_group, 2, words, ("put", 3, words[5])), True)
        self.assertIs(check_quick(self, 5, keeps_group, 2, words, ("take", 5)), False)
        self.assertIs(check_quick(self, 5, keeps_group, 2, words, spare), False)

    def test_wrong(self):
        kinds = [(0, InvalidNumber, WRONG_MANY), (1, InvalidList, WRONG_LIST)]
        check_wrong(self, is_deed, [2, ROW, ("take", 0)], kinds)
        for call in (changed, keeps_group):
            check_wrong(self, call, [2, ROW, ("take", 0)],
                        kinds + [(2, InvalidDeed, NO_DEED)])


def random_paper(chance, words, steps):
    """A paper over as many words."""
    found = []
    for at in range(steps):
        found.append([(chance.randrange(words + at), chance.choice((1, -1))) for _ in range(chance.randint(0, 3))]
                     if words + at else [])
    return found


class PaperBehindTest(unittest.TestCase):
    def check(self, many, words, deed, steps):
        """Check the paper behind a deed."""
        found = check_owned(self, paper_behind, many, words, deed, steps)
        made = changed(many, words, deed)
        self.assertLessEqual(len(found), len(steps) + 1)
        expected = (said(many, words, steps) or [""])[-1]
        self.assertEqual((said(many, made, found) or [""])[-1], expected)
        if len(expected) <= 1000:
            self.assertIs(is_paper(many, made, expected, found), True)

    def test_against_what_is_said(self):
        chance = chance_of(302)
        checked = {}
        for _ in range(500):
            many = chance.randint(1, 3)
            words = random_list(chance, many, 6, 5)
            deed = random_deed(chance, many, words)
            steps = random_paper(chance, len(words), chance.randint(0, 5))
            if deed[0] not in ("oppose", "exchange", "times") or not is_deed(many, words, deed):
                check_error(self, paper_behind, [many, words, deed, steps], InvalidDeed, deed)
                continue
            self.check(many, words, deed, steps)
            checked[deed[0]] = checked.get(deed[0], 0) + 1
        self.assertGreater(min(checked.values()), 25)

    def test_papers_of_words(self):
        chance = chance_of(303)
        for _ in range(60):
            words = random_list(chance, 2, 4, 5) + ["ab", "bba"]
            sought = say("".join(chance.choice([word, back(word)]) for word in words[:3]))
            steps = paper(2, words, sought)
            for deed in (("oppose", 0), ("exchange", 0, 1), ("times", 1, 0, 1), ("times", 0, 1, -1)):
                self.check(2, words, deed, steps)

    def test_edges(self):
        for deed in (("oppose", 0), ("exchange", 0, 1), ("times", 0, 1, 1), ("times", 1, 0, -1)):
            self.check(2, ["ab", "b"], deed, [])
            self.check(2, ["ab", "b"], deed, [[]])
            self.check(2, ["ab", "b"], deed, [[(0, 1)] * 12])
            self.check(2, ["ab", "b"], deed, [[(0, -1), (1, 1)] * 6, [(2, 1)] * 12, [(3, -1), (0, 1), (2, 1)]])
            self.check(2, ["ab", "b"], deed, [[(1, 1)], [], [(3, 1)], [(2, -1), (4, 1)]])
            self.check(2, ["ab", "aA"], deed, [[(0, 1), (1, -1)]])
        long = [[(0, 1)] * 12] + [[(at + 2, 1), (0, 1)] for at in range(700)]
        for deed in (("oppose", 0), ("exchange", 0, 1), ("times", 0, 1, 1)):
            found = check_quick(self, 5, paper_behind, 2, ["ab", "b"], deed, long)
            self.assertLessEqual(len(found), len(long) + 1)
        many = [[(0, 1), (1, 1)]] + [[(0, 1), (at % 2, -1)] for at in range(19999)]
        self.assertEqual(len(many), 20000)
        found = check_quick(self, 8, paper_behind, 2, ["ab", "b"], ("times", 1, 0, -1), many)
        made = changed(2, ["ab", "b"], ("times", 1, 0, -1))
        self.assertEqual(said(2, made, found)[1:], said(2, ["ab", "b"], many))

    def test_wrong(self):
        check_wrong(self, paper_behind, [2, ROW, ("oppose", 0), []],
                    [(0, InvalidNumber, WRONG_MANY), (1, InvalidList, WRONG_LIST),
                     (2, InvalidDeed, NO_DEED + OTHER_DEEDS),
                     (3, InvalidPaper, NO_PAPER)])


class SpotsLedTest(unittest.TestCase):
    def test_against_ways(self):
        chance = chance_of(304)
        led = 0
        for _ in range(200):
            many = chance.randint(1, 3)
            other = random_group(chance, many, 3, 5)
            one = random_group(chance, many, 2, 5)
            if chance.random() < 0.5 and 0 < other.rank() < 6:
                one = part_of_finite_index(chance, other, chance.randint(1, 3))
            elif chance.random() < 0.5:
                one = meet(one, other)
            found = check_owned(self, spots_led, one, other)
            self.assertIs(found is not None, inside(one, other))
            if found is not None:
                led += len(found) > 1
                self.assertEqual(len(found), len(one.picture()))
                for _ in range(20):
                    word = random_word(chance, many, chance.randint(0, 7))
                    passed = way(one, word)
                    self.assertEqual([found[spot] for spot in passed], way(other, word)[:len(passed)])
        self.assertGreater(led, 40)

    def test_edges(self):
        every = Group(2, ["a", "b"])
        self.assertEqual(spots_led(Group(2, []), every), [0])
        self.assertEqual(spots_led(Group(2, ["aab"]), every), [0, 0, 0])
        self.assertEqual(spots_led(every, every), [0])
        self.assertIsNone(spots_led(every, Group(2, ["a"])))
        self.assertIsNone(spots_led(Group(2, ["b"]), Group(2, [])))
        self.assertEqual(spots_led(Group(2, ["abA"]), Group(2, ["abA", "bb"])), [0, 1])
        self.assertFalse(belongs(Group(2, ["abA"]), "a"))
        long = Group(1, ["a" * 200])
        found = spots_led(long, Group(1, ["a" * 100]))
        self.assertEqual([found.count(spot) for spot in range(100)], [2] * 100)
        self.assertEqual([found[spot] for spot in way(long, "a" * 100)], way(Group(1, ["a" * 100]), "a" * 100))

    def test_wrong(self):
        group = Group(3, ["a"])
        check_wrong(self, spots_led, [group, group],
                    [(0, InvalidGroup, WRONG_GROUP), (1, InvalidGroup, WRONG_GROUP),
                     (1, Unlike, [Group(1, []), Group(2, ["a"]), Group(6, list("abcdef"))])])


if __name__ == "__main__":
    unittest.main()
