"""What several tests use: wrong values, slow answers found in another way, and checks of errors."""

import copy
import random
import time

from signlanes.bases import basis
from signlanes.errors import FoldError, InvalidWord
from signlanes.groups import Group, group_of
from signlanes.lettermaps import LetterMap
from signlanes.listbook import ListBook
from signlanes.pictures import picture_rows
from signlanes.wordsets import words_of

SIGNS = "aAbBcCdDeEfF"
GROUP = Group(2, ["aa", "b"])
SET = words_of(2, ["a", "bb"])
MAP = LetterMap(2, ["ab", "b"])
BOOK = ListBook(2, ["ab"])

ODD = [None, True, False, (), {}, {"a": 1}, [[1], None], ("a", 1), [[[["a"]]]], GROUP, SET, MAP, BOOK,
       InvalidWord("a"), FoldError()]
WRONG_MANY = ODD + [0, 7, -1, 10 ** 29, "2", "", "a", [], [2], (2,), ["a"]]
WRONG_COUNT = ODD + [-1, -10 ** 29, "1", "", [], [1], (1,)]
WRONG_WHOLE = ODD + ["1", "", [], [1], (1,)]
WRONG_WORD = ODD + [0, 3, "c", "C", "abc", "a b", "ab\n", "\t", "1", "~", [], ["a"], ["a", "b"], "a" * 1001]
WRONG_WORDS = ODD + [0, 3, "", "ab", ("a",), ("a", "b"), [None], ["a", True], ["a", ["b"]], ["a", ("b",)], ["c"],
                     ["a", 1], ["a" * 1001], [GROUP], ["a", "b c"]]
WRONG_LIST = WRONG_WORDS + [["a"] * 13, ["a", "b" * 201], [""] * 13]
WRONG_GROUP = [value for value in ODD if value is not GROUP] + [0, 1, "a", [], ["aa"], [[0, 0]], (2, ["a"])]
WRONG_SET = [value for value in ODD if value is not SET] + [0, 1, "a", [], ["aa"], [[1, 1]], (2, ["a"])]
WRONG_MAP = [value for value in ODD if value is not MAP] + [0, 1, "a", [], ["ab", "b"], (2, ["ab", "b"])]
UNLIKE_GROUPS = [Group(1, ["a"]), Group(3, []), Group(6, list("abcdef"))]


def told(call, *args, **named):
    """The error that a call raises, None if it raises none of the package."""
    try:
        call(*args, **named)
    except FoldError as error:
        return error
    return None


def check_wrong(test, call, right, kinds):
    """Check each wrong argument alone, and with wrong ones behind it: the first one is told.

    `kinds` has, for each argument that is checked, in the order of the checks: its place, the class
    of its error and its wrong values.
    """
    for order, (place, kind, values) in enumerate(kinds):
        for value in values:
            args = list(right)
            args[place] = value
            check_error(test, call, args, kind, value)
            for later_place, _, later in kinds[order + 1:]:
                if later_place != place:
                    args[later_place] = later[0]
                    check_error(test, call, args, kind, value)


def check_error(test, call, args, kind, value):
    """Check that a call raises just this error with just this object, and changes nothing."""
    before = copy.deepcopy(args)
    error = told(call, *args)
    test.assertIs(type(error), kind, (call.__name__, args))
    test.assertIs(error.value, value, (call.__name__, args))
    test.assertTrue(same(before, args), call.__name__)


def same(one, other):
    """Whether two values are equal and of the same kinds, errors apart."""
    if isinstance(one, FoldError):
        return type(one) is type(other)
    if type(one) is not type(other):
        return False
    if isinstance(one, (list, tuple)):
        return len(one) == len(other) and all(same(left, right) for left, right in zip(one, other))
    return one == other


def lists_in(value):
    """All list objects within a value."""
    if isinstance(value, list):
        return [value] + [found for item in value for found in lists_in(item)]
    if isinstance(value, tuple):
        return [found for item in value for found in lists_in(item)]
    return []


def spoil(value):
    """Change every list within a value."""
    for found in lists_in(value):
        found.append("spoiled")


def check_owned(test, call, *args):
    """Check that a result has each list once, shares none, and that changing it changes no later one."""
    before = copy.deepcopy(args)
    first = call(*args)
    kept = copy.deepcopy(first)
    found = lists_in(first)
    handed_in = lists_in(list(args))
    test.assertEqual(len({id(item) for item in found}), len(found), call.__name__)
    test.assertFalse({id(item) for item in found} & {id(item) for item in handed_in}, call.__name__)
    spoil(first)
    test.assertTrue(same(list(before), list(args)), call.__name__)
    test.assertTrue(same(call(*args), kept), call.__name__)
    return kept


def check_quick(test, seconds, call, *args):
    """The result of a call that has to come within seconds."""
    begun = time.time()
    result = call(*args)
    test.assertLess(time.time() - begun, seconds, call.__name__)
    return result


def say(word):
    """The plain word that a word says."""
    left = []
    for sign in word:
        if left and left[-1] != sign and left[-1].lower() == sign.lower():
            left.pop()
        else:
            left.append(sign)
    return "".join(left)


def back(word):
    """The opposite of a word."""
    return "".join(sign.swapcase() for sign in reversed(word))


def place(word):
    """The place of a word in the order of words."""
    return (len(word), [SIGNS.index(sign) for sign in word])


def plain_words(many, most):
    """All plain words with at most so many signs, in order."""
    found, level = [""], [""]
    for _ in range(most):
        level = [word + sign for word in level for sign in SIGNS[:2 * many] if not word or word[-1] != sign.swapcase()]
        found += level
    return found


def random_word(chance, many, size):
    """A word of so many signs, plain or not."""
    return "".join(chance.choice(SIGNS[:2 * many]) for _ in range(size))


def random_plain(chance, many, size):
    """A plain word of so many signs."""
    word = ""
    while len(word) < size:
        sign = chance.choice(SIGNS[:2 * many])
        if not word or word[-1] != sign.swapcase():
            word += sign
    return word


def random_list(chance, many, most_words, most_signs):
    """A list of words, with equal ones, opposites and the empty word now and then."""
    words = [random_word(chance, many, chance.randint(0, most_signs)) for _ in range(chance.randint(0, most_words))]
    if words and chance.random() < 0.3:
        words.append(chance.choice([words[0], back(words[0]), "", words[-1] + words[0]]))
    return words


def mixed_list(chance, many, words, steps, most):
    """A list with the same group, by products of its words with one another."""
    words = [say(word) for word in words]
    for _ in range(steps):
        one, other = chance.randrange(len(words)), chance.randrange(len(words))
        if one != other:
            factor = chance.choice([words[other], back(words[other])])
            made = say(chance.choice([words[one] + factor, factor + words[one]]))
            if len(made) <= most:
                words[one] = made
    return words


def slow_picture(many, words):
    """The picture of a group, by a plain search for two lanes that have to become one."""
    lanes, spots = set(), 1
    for word in words:
        word, at = say(word), 0
        for step, sign in enumerate(word):
            to = 0 if step == len(word) - 1 else spots
            spots += step < len(word) - 1
            lanes.add((at, sign, to) if sign.islower() else (to, sign.lower(), at))
            at = to
    while True:
        pair = slow_fold(lanes)
        if pair is None:
            return slow_rows(many, lanes)
        low, high = min(pair), max(pair)
        lanes = {(low if one == high else one, sign, low if two == high else two) for one, sign, two in lanes}


def slow_fold(lanes):
    """Two spots to which one sign leads from one spot, None without such."""
    seen = {}
    for one, sign, two in sorted(lanes):
        for key, end in (((one, sign), two), ((two, sign.upper()), one)):
            if seen.setdefault(key, end) != end:
                return seen[key], end
    return None


def slow_rows(many, lanes):
    """The rows of a folded set of lanes."""
    table = {}
    for one, sign, two in lanes:
        table[one, sign] = two
        table[two, sign.upper()] = one
    order = [0]
    for spot in order:
        order += [table[spot, sign] for sign in SIGNS[:2 * many]
                  if (spot, sign) in table and table[spot, sign] not in order
                  and all(table[spot, sign] != table.get((spot, early)) for early in SIGNS[:SIGNS.index(sign)])]
    return [[order.index(table[spot, sign]) if (spot, sign) in table else None for sign in SIGNS[:2 * many]]
            for spot in order]


def slow_member(rows, word):
    """Whether a picture reads what a word says from the start back to it."""
    at = 0
    for sign in say(word):
        at = rows[at][SIGNS.index(sign)]
        if at is None:
            return False
    return at == 0


def full_picture(chance, many, spots):
    """A picture in which every sign has a lane from each spot."""
    while True:
        rows = [[None] * (2 * many) for _ in range(spots)]
        for letter in range(many):
            ends = list(range(spots))
            chance.shuffle(ends)
            for spot, end in enumerate(ends):
                rows[spot][2 * letter], rows[end][2 * letter + 1] = end, spot
        order = [0]
        for spot in order:
            for end in rows[spot]:
                if end not in order:
                    order.append(end)
        if len(order) == spots:
            return [[order.index(end) for end in rows[spot]] for spot in order]


def random_group(chance, many, most_words, most_signs):
    """A group of a list of words; now and then one of finite index."""
    if chance.random() < 0.25:
        return group_of(many, full_picture(chance, many, chance.randint(1, 6)))
    return Group(many, random_list(chance, many, most_words, most_signs))


def lane_total(group):
    """The number of lanes of a picture, each counted once."""
    return sum(end is not None for row in group.picture() for end in row) // 2


def pasted(words, word):
    """What a word for letters says if each of them is replaced by a word, its opposite by the opposite."""
    parts = [words[SIGNS.index(sign) // 2] if sign.islower() else back(words[SIGNS.index(sign) // 2]) for sign in word]
    return say("".join(parts))


def part_of_finite_index(chance, other, index):
    """A group inside another one that has at least one letter of rank, with so many classes in it."""
    rank, words = other.rank(), basis(other)
    group = group_of(rank, full_picture(chance, rank, index))
    rows = picture_rows(other.many(), [pasted(words, word) for word in basis(group)])
    return group_of(other.many(), rows)


def chance_of(seed):
    """A source of chance that is the same each time."""
    return random.Random(seed)
