"""Lines of whole numbers: none, one alone, or all that leave the same rest when parted by a step."""

from math import gcd

from signlanes.branches import read_on
from signlanes.checks import is_whole
from signlanes.remainders import inverse_of
from signlanes.signs import glued, sign_numbers, undone
from signlanes.words import split_hair


def is_line(value):
    """Whether a value is a line."""
    if value is None:
        return True
    if not isinstance(value, tuple) or len(value) != 2:
        return False
    first, step = value
    if not is_whole(first) or not is_whole(step):
        return False
    return step == 0 or 0 <= first < step


def lines_met(one, other):
    """The line of the numbers that two lines have."""
    if one is None or other is None:
        return None
    if one[1] == 0:
        return one if is_on_line(one[0], other) else None
    if other[1] == 0:
        return other if is_on_line(other[0], one) else None
    return steps_met(one, other)


def is_on_line(number, line):
    """Whether a line that has numbers has one."""
    first, step = line
    return number == first if step == 0 else (number - first) % step == 0


def steps_met(one, other):
    """The same of two lines with steps."""
    (first, step), (other_first, other_step) = one, other
    shared = gcd(step, other_step)
    if (other_first - first) % shared != 0:
        return None
    # The first line is gone along until the second one is met, which it does at most that many steps later.
    turns = other_step // shared
    times = (other_first - first) // shared * inverse_of(step // shared, turns) % turns
    return (first + step * times, step * turns)


def line_between(rows, left, word, right):
    """The line of the numbers for which the power of a word, between two words, is in a group with a picture.

    All words are plain, the middle one is not empty.
    """
    hair, ring = split_hair(word)
    first = read_on(rows, 0, [], sign_numbers(glued(left, hair)))
    last = read_on(rows, 0, [], sign_numbers(glued(undone(right), hair)))
    times, turns = times_to(rows, first, sign_numbers(ring), last)
    if turns > 0 or times is not None:
        return None if times is None else (times, turns)
    times, _ = times_to(rows, first, sign_numbers(undone(ring)), last)
    return None if times is None else (-times, 0)


def times_to(rows, first, ring, last):
    """How often a ring leads from a class to another one, at least, and how often to itself, 0 for never.

    A class is the spot and the rest to which its words are read.
    """
    at, passed, times = first, 0, None
    while True:
        if at == last and times is None:
            times = passed
        going = read_on(rows, at[0], at[1], ring)
        passed += 1
        if going == first:
            return (times, passed)
        # As soon as nothing of the ring is taken away or finds a lane, nothing ever does.
        if len(going[1]) == len(at[1]) + len(ring) and len(going[1]) > len(last[1]):
            return (times, 0)
        at = going
