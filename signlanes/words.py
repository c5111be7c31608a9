"""Words, what they say, their products and their numbers."""

from signlanes.checks import MOST_SIGNS, check_count, check_many, check_word, check_words, is_spelled, is_whole
from signlanes.errors import InvalidNumber, TooLong
from signlanes.places import place_behind, powers, put_behind
from signlanes.signs import order_key, reduced, sign_numbers, undone, written

MOST_NUMBERED = 300


def is_word(many, value):
    """Whether a value is a word for so many letters."""
    check_many(many)
    return is_spelled(many, value, MOST_SIGNS)


def is_plain(many, value):
    """Whether a value is a plain word for so many letters."""
    check_many(many)
    return is_spelled(many, value, MOST_SIGNS) and reduced(value) == value


def plain(many, word):
    """The plain word that a word says."""
    check_many(many)
    check_word(many, word)
    return reduced(word)


def product(many, words):
    """The product of the words of a list."""
    check_many(many)
    check_words(many, words)
    result = reduced("".join(words))
    if len(result) > MOST_SIGNS:
        raise TooLong(len(result))
    return result


def opposite(many, word):
    """The opposite of what a word says."""
    check_many(many)
    check_word(many, word)
    return undone(reduced(word))


def power(many, word, times):
    """The product of a word, or for a number below 0 of its opposite, so many times."""
    check_many(many)
    check_word(many, word)
    if not is_whole(times):
        raise InvalidNumber(times)
    base = reduced(word)
    hair, ring = split_hair(base)
    # Told before the word is made: there may be far too many signs to write them.
    size = 2 * len(hair) + abs(times) * len(ring)
    if size > MOST_SIGNS:
        raise TooLong(size)
    return powered(base, times)


def powered(word, times):
    """A plain word, or for a number below 0 its opposite, so many times."""
    if word == "" or times == 0:
        return ""
    hair, ring = split_hair(word if times > 0 else undone(word))
    return hair + ring * abs(times) + undone(hair)


def split_hair(word):
    """The hair and the ring of a plain word."""
    size = 0
    while 2 * size < len(word) and word[size] == word[len(word) - 1 - size].swapcase():
        size += 1
    return (word[:size], word[size:len(word) - size])


def ahead(many, one, other):
    """Whether what one word says is ahead of what another one says."""
    check_many(many)
    check_word(many, one)
    check_word(many, other)
    return order_key(reduced(one)) < order_key(reduced(other))


def how_many_words(many, signs):
    """How many plain words have just so many signs."""
    check_many(many)
    check_count(signs)
    if signs == 0:
        return 1
    return 2 * many * powers(2 * many - 1, signs - 1)[-1]


def word_number(many, word):
    """How many plain words are ahead of what a word says."""
    check_many(many)
    check_word(many, word)
    numbers = sign_numbers(reduced(word))
    if numbers == []:
        return 0
    steps = powers(2 * many - 1, len(numbers) - 1)
    shorter = 1 + 2 * many * sum(steps[:-1])
    return shorter + numbers[0] * steps[-1] + place_behind(2 * many, numbers, 1)


def word_numbered(many, number):
    """The plain word ahead of which just so many plain words are."""
    check_many(many)
    check_count(number)
    rest, signs, block = number, 0, 1
    while rest >= block:
        rest, signs = rest - block, signs + 1
        block = 2 * many if signs == 1 else block * (2 * many - 1)
        if signs > MOST_NUMBERED:
            raise TooLong(MOST_NUMBERED + 1)
    if signs == 0:
        return ""
    first, place = divmod(rest, block // (2 * many))
    return written(put_behind(2 * many, [first], signs - 1, place))
