"""Tests of promises 65 and 66."""

import inspect
import unittest

from signlanes.errors import (InvalidBook, InvalidDeed, InvalidFlag, InvalidList, InvalidNumber, InvalidWord,
                              NothingToRedo, NothingToUndo, TooMany)
from signlanes.groups import Group, belongs, parting_word
from signlanes.listbook import ListBook, member_since, parting_since, spot_since
from signlanes.listdeeds import changed, is_deed, keeps_group, spots_led
from tests.helpers import (BOOK, ODD, WRONG_COUNT, WRONG_LIST, WRONG_MANY, WRONG_WORD, chance_of, check_error, check_owned,
                           check_quick, check_wrong, plain_words, random_list, random_plain, say, spoil, told)
from tests.test_listdeeds import NO_DEED, random_deed

NO_BOOK = [value for value in ODD if value is not BOOK] + [0, "", "a", [], ["a"], (2, ["a"]), {"many": 2}]
NO_FLAG = [value for value in ODD if not isinstance(value, bool)] + [0, 1, "", "True", [], [True], -1, (True,)]
NO_DEED_LIST = ODD + [0, "", "take", (), (("take", 0),), ("take", 0), {"take": 0}]
NO_DEED_LIST = [value for value in NO_DEED_LIST if not isinstance(value, list)]


def looks(book):
    """All that a book tells of itself, and what it tells behind each thing undone and redone."""
    copy, found = book.copy(), []
    while told(copy.redo) is None:
        pass
    while True:
        found.append((copy.standing, copy.many_deeds, copy.log(), [group.picture() for group in copy.groups()]))
        if told(copy.undo):
            break
    return (book.standing, book.many_deeds, book.log(), book.group.picture(), found)


def do(deed):
    """A call that does a deed on a new book of a row of three words."""
    ListBook(2, ["ab", "b", "aA"]).do(deed)


def together(deeds, keep):
    """A call that does deeds on a new book."""
    ListBook(2, ["ab", "b", "aA"]).together(deeds, keep=keep)


class SlowBook:
    """A book that keeps all lists, and all lists that were undone."""

    def __init__(self, many, words):
        self.many, self.lists, self.deeds, self.ahead = many, [[say(word) for word in words]], [], []

    def do(self, deed):
        self.lists.append(changed(self.many, self.lists[-1], deed))
        self.deeds.append(deed)
        self.ahead = []

    def undo(self):
        self.ahead.append((self.deeds.pop(), self.lists.pop()))

    def redo(self):
        deed, row = self.ahead.pop()
        self.deeds.append(deed)
        self.lists.append(row)


def small_deed(chance, book):
    """A deed that a book does."""
    while True:
        deed = random_deed(chance, book.many, book.lists[-1])
        if is_deed(book.many, book.lists[-1], deed):
            row = changed(book.many, book.lists[-1], deed)
            if sum(map(len, row)) <= 60:
                return deed


class ExampleTest(unittest.TestCase):
    def test_examples(self):
        book = ListBook(2, ["aaaa"])
        self.assertEqual([book.do(("put", 1, "aaaaaa")), book.standing, book.many_deeds, member_since(book, "aa"),
                          member_since(book, "aaaa"), parting_since(book, 0), spot_since(book, 0, 2)],
                         [None, ["aaaa", "aaaaaa"], 1, 1, 0, "aa", 1])
        self.assertEqual([book.together([("take", 0), ("take", 0)], keep=False), book.undo(),
                          book.group == Group(2, ["AAAA"]), book.redo(), book.log()],
                         [[], None, True, None, [("put", 1, "aaaaaa")]])

    def test_names_of_arguments(self):
        book = ListBook(many=2, words=["a"])
        self.assertIsNone(book.do(deed=("put", 0, "b")))
        self.assertEqual(book.together(deeds=[("take", 1)]), ["b"])
        self.assertEqual(book.together(deeds=[("take", 0)], keep=True), [])
        self.assertIsNone(member_since(book=book, word="a"))
        self.assertEqual(parting_since(book=book, since=0), "a")
        self.assertIsNone(spot_since(book=book, since=0, spot=0))
        parameter = inspect.signature(ListBook.together).parameters["keep"]
        self.assertEqual((parameter.kind, parameter.default), (inspect.Parameter.KEYWORD_ONLY, True))


class ListBookTest(unittest.TestCase):
    def check(self, book, slow):
        """Check a book against a slow one."""
        self.assertEqual((book.standing, book.many_deeds, book.log()), (slow.lists[-1], len(slow.deeds), slow.deeds))
        groups = book.groups()
        self.assertEqual(groups, [Group(slow.many, row) for row in slow.lists])
        self.assertEqual(book.group, groups[-1])

    def test_against_slow(self):
        chance = chance_of(310)
        for _ in range(40):
            many = chance.randint(1, 3)
            words = random_list(chance, many, 4, 5)
            book, slow = ListBook(many, words), SlowBook(many, words)
            for _ in range(25):
                step = chance.random()
                if step < 0.4:
                    deed = small_deed(chance, slow)
                    self.assertIsNone(book.do(deed))
                    slow.do(deed)
                elif step < 0.6 and slow.deeds:
                    self.assertIsNone(book.undo())
                    slow.undo()
                elif step < 0.8 and slow.ahead:
                    self.assertIsNone(book.redo())
                    slow.redo()
                else:
                    self.do_together(chance, book, slow)
                self.check(book, slow)
                self.check_since(chance, book, slow)

    def do_together(self, chance, book, slow):
        """Several deeds at once, kept or not."""
        copy = SlowBook(slow.many, slow.lists[-1])
        for _ in range(chance.randint(0, 3)):
            copy.do(small_deed(chance, copy))
        before, keep = looks(book), chance.random() < 0.5
        self.assertEqual(check_kept(book, copy.deeds, keep), copy.lists[-1])
        if keep:
            for deed in copy.deeds:
                slow.do(deed)
        else:
            self.assertEqual(looks(book), before)

    def check_since(self, chance, book, slow):
        """Check since when words belong, and what parts and leads the groups."""
        groups = [Group(slow.many, row) for row in slow.lists]
        for word in chance.sample(plain_words(slow.many, 3 if slow.many < 3 else 2), 6):
            flags = [belongs(group, word) for group in groups]
            expected = None if not flags[-1] else len(flags) - (flags[::-1] + [False]).index(False)
            self.assertEqual(member_since(book, "aA" + word), expected)
        since = chance.randrange(len(groups))
        self.assertEqual(parting_since(book, since), parting_word(groups[since], groups[-1]))
        spots, goes = len(groups[since].picture()), spots_led(groups[since], groups[-1])
        for spot in range(spots):
            self.assertEqual(spot_since(book, since, spot), None if goes is None else goes[spot])
        for number in (spots, spots + 1, -1):
            check_error(self, spot_since, [book, since, number], InvalidNumber, number)
        for number in (len(groups), len(groups) + 1, -1, True):
            check_error(self, parting_since, [book, number], InvalidNumber, number)

    def test_nothing_to_undo_and_to_redo(self):
        book = ListBook(2, ["a"])
        for call, kind in ((book.undo, NothingToUndo), (book.redo, NothingToRedo)):
            before = looks(book)
            self.assertIs(type(told(call)), kind)
            self.assertEqual(looks(book), before)
        book.do(("take", 0))
        self.assertIs(type(told(book.redo)), NothingToRedo)
        book.undo()
        self.assertIs(type(told(book.undo)), NothingToUndo)
        book.redo()
        self.assertEqual((book.standing, type(told(book.redo))), ([], NothingToRedo))

    def test_what_a_new_deed_forgets(self):
        for again in ("do", "together", "empty", "not kept", "wrong"):
            book = ListBook(2, ["a", "b"])
            for deed in (("take", 0), ("oppose", 0), ("put", 0, "ab")):
                book.do(deed)
            book.undo()
            book.undo()
            if again == "do":
                book.do(("oppose", 0))
            elif again == "together":
                self.assertEqual(book.together([("oppose", 0)]), ["B"])
            elif again == "empty":
                self.assertEqual(book.together([]), ["b"])
            elif again == "not kept":
                self.assertEqual(book.together([("take", 0)], keep=False), [])
            else:
                self.assertIs(type(told(book.do, ("take", 1))), InvalidDeed)
                self.assertIs(type(told(book.together, [("take", 0), ("take", 0)])), InvalidDeed)
            if again in ("do", "together"):
                self.assertIs(type(told(book.redo)), NothingToRedo)
                self.assertEqual(book.log(), [("take", 0), ("oppose", 0)])
            else:
                self.assertIsNone(book.redo())
                self.assertIsNone(book.redo())
                self.assertEqual(book.standing, ["ab", "B"])

    def test_errors_in_the_middle(self):
        book = ListBook(2, ["", "aA"])
        book.do(("oppose", 0))
        book.do(("oppose", 1))
        book.undo()
        before = looks(book)
        wrong = ("take", 5)
        for deeds in ([wrong], [("take", 0), wrong, None], [("take", 0), ("take", 0), ("take", 0)]):
            for keep in (True, False):
                error = told(book.together, deeds, keep=keep)
                self.assertIs(type(error), InvalidDeed)
                self.assertIs(error.value, deeds[-1] if wrong not in deeds else wrong)
                self.assertEqual(looks(book), before)
        long = [("put", 0, "a" * 150), ("put", 0, "b" * 152)]
        error = told(book.together, long)
        self.assertEqual((type(error), error.value, looks(book)), (TooMany, 301, before))
        self.assertEqual(told(book.together, long + [wrong]).value, 301)
        self.assertIs(type(told(book.together, [wrong] + long)), InvalidDeed)

    def test_too_many_spots(self):
        book = ListBook(2, ["a" * 200])
        error = told(book.do, ("put", 0, "b" * 200))
        self.assertEqual((type(error), error.value), (TooMany, 399))
        self.assertEqual((book.standing, book.log(), book.many_deeds), (["a" * 200], [], 0))
        self.assertIs(type(told(book.undo)), NothingToUndo)
        self.assertIsNone(book.do(("put", 0, "b" * 101)))
        self.assertEqual(len(book.group.picture()), 300)
        self.assertEqual(told(book.do, ("put", 1, "ab" * 3)).value, 303)

    def test_lists_together(self):
        book = ListBook(2, ["ab"])
        self.assertEqual(book.together([("put", 1, "bB"), ("oppose", 0), ("lead", "a")]), ["AB", ""])
        self.assertEqual(book.many_deeds, 3)
        book.undo()
        self.assertEqual(book.log(), [("put", 1, "bB"), ("oppose", 0)])
        self.assertEqual(book.standing, ["BA", ""])

    def test_copies(self):
        book = ListBook(2, ["a", "b"])
        book.do(("times", 0, 1, 1))
        book.do(("take", 1))
        book.undo()
        copy = book.copy()
        self.assertEqual(looks(copy), looks(book))
        self.assertTrue(copy == book)
        before = looks(book)
        copy.redo()
        copy.do(("put", 0, "aa"))
        self.assertEqual(looks(book), before)
        self.assertFalse(copy == book)
        self.assertEqual((copy.standing, book.standing), (["aa", "ab"], ["ab", "b"]))
        before = looks(copy)
        book.undo()
        book.together([("take", 0), ("take", 0)])
        self.assertEqual(looks(copy), before)

    def test_equality(self):
        def made(many, words, *deeds):
            book = ListBook(many, words)
            book.together(list(deeds))
            return book
        put, take = ("put", 1, "a"), ("take", 0)
        self.assertTrue(made(2, ["abB"], put, take) == made(2, ["a"], put, take))
        for other in (made(3, ["a"], put, take), made(2, ["A"], put, take), made(2, ["a"], put), made(2, ["a"], take, ("put", 0, "a")),
                      made(2, ["a"], ("put", 1, "aAa"), take), made(2, ["a", "a"], put, take), made(2, ["a"]),
                      made(2, ["a"], put, take, ("oppose", 0)), None, ["a"], Group(2, ["a"])):
            self.assertFalse(made(2, ["a"], put, take) == other)
            self.assertTrue(made(2, ["a"], put, take) != other)
        book = made(2, ["a"], put, take)
        book.undo()
        # What is undone does not matter.
        self.assertTrue(book == made(2, ["a"], put))

    def test_deeds_as_they_were_handed_in(self):
        images = ["aAb", "bBa"]
        words = ["ab", "aAb"]
        book = ListBook(2, words)
        deed = ("change", images)
        book.do(deed)
        images.append("a")
        words.append("b")
        self.assertEqual((book.log(), book.standing), ([("change", ["aAb", "bBa"])], ["ba", "a"]))
        deeds = [("lead", "aA" + "b"), ("put", 2, "aA")]
        book.together(deeds)
        deeds.append(None)
        self.assertEqual(book.log(), [("change", ["aAb", "bBa"]), ("lead", "aAb"), ("put", 2, "aA")])
        for read in (book.log, book.groups):
            check_owned(self, read)
        spoil(book.log())
        spoil(book.standing)
        spoil(book.together([], keep=False))
        self.assertEqual(book.standing, ["ab", "Bab", ""])
        copy = book.copy()
        spoil(copy.log())
        self.assertEqual(copy, book)
        book.undo()
        book.redo()
        self.assertEqual(book, copy)

    def test_limits(self):
        chance = chance_of(311)
        book = ListBook(6, [random_plain(chance, 6, 25) for _ in range(12)])
        for at in range(40):
            deed = [("exchange", at % 12, (at + 1) % 12), ("oppose", at % 12), ("lead", "abcdef"[at % 6]),
                    ("change", list("bcdefa"))][at % 4]
            self.assertIsNone(check_quick(self, 3, book.do, deed))
        self.assertEqual(book.many_deeds, 40)
        check_quick(self, 3, member_since, book, random_plain(chance, 6, 1000))
        self.assertIsNotNone(check_quick(self, 5, parting_since, book, 38))
        check_quick(self, 3, spot_since, book, 0, 200)
        copy = check_quick(self, 3, book.copy)
        self.assertTrue(copy == book)
        for _ in range(40):
            book.undo()
        self.assertIs(type(told(book.undo)), NothingToUndo)
        for _ in range(40):
            book.redo()
        self.assertTrue(copy == book)
        self.assertEqual(len(book.groups()), 41)

    def test_wrong(self):
        check_wrong(self, ListBook, [2, ["a"]], [(0, InvalidNumber, WRONG_MANY), (1, InvalidList, WRONG_LIST)])
        self.assertEqual(told(ListBook, 2, ["a" * 200, "b" * 200]).value, 399)
        check_wrong(self, do, [("take", 0)], [(0, InvalidDeed, NO_DEED)])
        check_wrong(self, together, [[], True], [(0, InvalidList, NO_DEED_LIST), (1, InvalidFlag, NO_FLAG)])
        for deed in NO_DEED:
            for keep in (True, False):
                error = told(together, [("exchange", 0, 1), deed, None], keep)
                self.assertIs(type(error), InvalidDeed)
                self.assertIs(error.value, deed)
            self.assertIs(type(told(together, [deed], None)), InvalidFlag)


def check_kept(book, deeds, keep):
    """What `together` returns, with the argument left out where it may be."""
    return book.together(deeds) if keep else book.together(deeds, keep=False)


class SinceTest(unittest.TestCase):
    def test_words_that_come_and_go(self):
        book = ListBook(2, ["aa"])
        for deed in (("put", 0, "a"), ("take", 0), ("put", 0, "A"), ("put", 0, "b"), ("oppose", 1)):
            book.do(deed)
        self.assertEqual([member_since(book, word) for word in ("", "aa", "a", "A", "b", "ab", "aA")],
                         [0, 0, 3, 3, 4, 4, 0])
        book.do(("take", 0))
        self.assertEqual([member_since(book, word) for word in ("a", "b", "aa", "ab")], [3, None, 0, None])
        book.undo()
        self.assertEqual(member_since(book, "b"), 4)
        self.assertEqual([parting_since(book, since) for since in range(6)], ["a", "b", "a", "b", None, None])

    def test_spots(self):
        book = ListBook(1, ["a" * 12])
        for word in ("a" * 6, "aaa", "aaaa"):
            book.do(("put", 0, word))
        sizes = [12, 6, 3, 1]
        for since, spots in enumerate(sizes):
            self.assertEqual([spot_since(book, since, spot) for spot in range(spots)], [0] * spots)
        book.undo()
        self.assertEqual([spot_since(book, 1, spot) for spot in range(6)], [0, 1, 2, 2, 1, 0])
        book.do(("take", 0))
        book.do(("take", 0))
        self.assertEqual([spot_since(book, since, 0) for since in range(5)], [0, None, None, None, 0])
        self.assertEqual([parting_since(book, since) for since in range(5)], [None, "a" * 6, "aaa", "a" * 6, None])

    def test_groups_that_stay(self):
        chance = chance_of(312)
        for _ in range(30):
            words = random_list(chance, 2, 3, 4) + ["ab"]
            book = ListBook(2, words)
            deed = chance.choice([("oppose", 0), ("exchange", 0, len(words) - 1), ("times", 0, len(words) - 1, -1)])
            if not is_deed(2, words, deed):
                continue
            book.do(deed)
            self.assertIs(keeps_group(2, words, deed), True)
            self.assertIsNone(parting_since(book, 0))
            self.assertEqual(book.groups()[0], book.groups()[1])
            self.assertEqual([spot_since(book, 0, spot) for spot in range(len(book.group.picture()))],
                             list(range(len(book.group.picture()))))

    def test_wrong(self):
        book = ListBook(2, ["aa"])
        book.do(("put", 0, "b"))
        check_wrong(self, member_since, [book, "a"], [(0, InvalidBook, NO_BOOK), (1, InvalidWord, WRONG_WORD)])
        numbers = WRONG_COUNT + [2, 3, 10 ** 29]
        check_wrong(self, parting_since, [book, 1], [(0, InvalidBook, NO_BOOK), (1, InvalidNumber, numbers)])
        check_wrong(self, spot_since, [book, 1, 1],
                    [(0, InvalidBook, NO_BOOK), (1, InvalidNumber, numbers), (2, InvalidNumber, numbers)])


if __name__ == "__main__":
    unittest.main()
