"""The words of a set by their numbers."""

from signlanes.checks import check_count, check_word, is_count
from signlanes.errors import InvalidNumber, TooLong
from signlanes.machines import lets_finitely_many, lets_of, live_states
from signlanes.signs import reduced, sign_numbers, written
from signlanes.wordsets import check_set

MOST_NUMBERED = 300


def how_many_in(words):
    """How many words a set has, None if they are without end."""
    check_set(words)
    if not lets_finitely_many(words.least_rows, words.least_ends):
        return None
    # No word of a finite set leads to a state twice.
    targets, level, size = live_targets(words), first_level(words), 0
    for _ in range(len(targets)):
        size += level[0]
        level = next_level(targets, level)
    return size


def how_many_of(words, signs):
    """How many words of a set have just so many signs."""
    check_set(words)
    check_count(signs)
    level = first_level(words)
    targets = live_targets(words)
    for _ in range(signs):
        level = next_level(targets, level)
    return level[0]


def live_targets(words):
    """For each state of a set the states to which signs lead and from which words of it go on."""
    live = live_states(words.least_rows, words.least_ends)
    return [[target for target in row if live[target]] for row in words.least_rows]


def first_level(words):
    """For each state how many words without signs lead from it to an end."""
    return [1 if let else 0 for let in lets_of(words.least_rows, words.least_ends)]


def next_level(targets, level):
    """For each state how many words of one sign more than those of a level lead from it to an end."""
    return [sum([level[target] for target in row]) for row in targets]


def place_in(words, word):
    """How many words of a set are ahead of what a word says."""
    check_set(words)
    check_word(words.letter_count, word)
    targets, ends = live_targets(words), words.least_ends
    # How many words lead to each state: all of as many signs as are read, and those of them that are ahead.
    every, ahead, state = [1] + [0] * (len(targets) - 1), [0] * len(targets), 0
    shorter = 0
    for number in sign_numbers(reduced(word)):
        shorter += sum([every[end] for end in ends])
        every, ahead = led_on(targets, every), led_on(targets, ahead)
        for target in words.least_rows[state][:number]:
            ahead[target] += 1
        state = words.least_rows[state][number]
    return shorter + sum([ahead[end] for end in ends])


def led_on(targets, counts):
    """How many words lead to each state by one sign more, of how many lead to each without it."""
    found = [0] * len(targets)
    for row, count in zip(targets, counts):
        if count > 0:
            for target in row:
                found[target] += count
    return found


def word_in(words, number):
    """The word of a set ahead of which just so many others are."""
    check_set(words)
    if not is_count(number):
        raise InvalidNumber(number)
    size = how_many_in(words)
    if size is not None and number >= size:
        raise InvalidNumber(number)
    targets, levels, rest = live_targets(words), [first_level(words)], number
    while rest >= levels[-1][0]:
        if len(levels) > MOST_NUMBERED:
            raise TooLong(MOST_NUMBERED + 1)
        rest -= levels[-1][0]
        levels.append(next_level(targets, levels[-1]))
    return written(word_at(words.least_rows, levels, rest))


def word_at(rows, levels, place):
    """The signs of the word of a set with a place among those of the signs of the last level."""
    numbers, state = [], 0
    for left in range(len(levels) - 2, -1, -1):
        for sign, target in enumerate(rows[state]):
            if place < levels[left][target]:
                break
            place -= levels[left][target]
        numbers.append(sign)
        state = target
    return numbers
