"""Lists of words made less, step by step, until those that are not needed say the empty word."""

from signlanes.numberrows import row_undone, rows_glued
from signlanes.signs import glued, order_key, undone


def level_key(word):
    """What stands for the level of a plain word in Python's order.

    As long as a list says more words than its group needs, some product of two of its words, or of
    one and the opposite of another, is of a lesser level than one of both; and levels cannot become
    less without end.
    """
    half = (len(word) + 1) // 2
    one, other = order_key(word[:half]), order_key(undone(word)[:half])
    return (len(word), min(one, other), max(one, other))


def joined_words(words, at, other, side, behind):
    """A word of a list with another one, or its opposite, ahead of it or behind it."""
    factor = words[other] if side == 1 else undone(words[other])
    return glued(words[at], factor) if behind else glued(factor, words[at])


def joined_rows(rows, at, other, side, behind):
    """The same of rows."""
    factor = rows[other] if side == 1 else row_undone(rows[other])
    return rows_glued(rows[at], factor) if behind else rows_glued(factor, rows[at])


def lessening(words, at, other):
    """The ways to make the level of a word less by another one: the growth, the side, and whether behind."""
    found = []
    for side in (1, -1):
        for behind in (False, True):
            word = joined_words(words, at, other, side, behind)
            growth = len(word) - len(words[at])
            if growth < 0 or growth == 0 and level_key(word) < level_key(words[at]):
                found.append((growth, side, behind))
    return found


def best_lessening(words, rows):
    """The way that makes a word the shortest; of equal ones that of the shortest row."""
    found = []
    for at in range(len(words)):
        for other in range(len(words)):
            if at != other and words[at] != "" and words[other] != "":
                for growth, side, behind in lessening(words, at, other):
                    found.append((growth, len(rows[other]), at, other, side, behind))
    return min(found)


def freed_rows(words, rank):
    """A row over plain words for each of them, and the words that these rows say.

    All rows together are a basis of all rows, and only as many words as the rank are not empty.
    """
    rows, words = [[number] for number in range(1, len(words) + 1)], list(words)
    while len(words) - words.count("") > rank:
        _, _, at, other, side, behind = best_lessening(words, rows)
        rows[at] = joined_rows(rows, at, other, side, behind)
        words[at] = joined_words(words, at, other, side, behind)
    return (rows, words)
