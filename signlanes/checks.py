"""Checks of numbers, words and lists of words that are handed in."""

from signlanes.errors import InvalidList, InvalidNumber, InvalidWord
from signlanes.signs import SIGNS

MOST_LETTERS = 6
MOST_SIGNS = 1000
MOST_WORDS = 12
MOST_WORD_SIGNS = 200


def is_whole(value):
    """Whether a value is a whole number; a Boolean is none."""
    return isinstance(value, int) and not isinstance(value, bool)


def is_count(value):
    """Whether a value is a whole number of at least 0."""
    return is_whole(value) and value >= 0


def is_spelled(many, value, most):
    """Whether a value is a word for so many letters with at most so many signs."""
    if not isinstance(value, str) or len(value) > most:
        return False
    # Stripping takes signs from both ends until another character stands there.
    return value.strip(SIGNS[:2 * many]) == ""


def is_word_list(many, value, most):
    """Whether a value is a list of words with at most so many signs each."""
    return isinstance(value, list) and all([is_spelled(many, word, most) for word in value])


def is_short_list(many, value):
    """Whether a value is a list of words of which a group is made."""
    if not isinstance(value, list) or len(value) > MOST_WORDS:
        return False
    return is_word_list(many, value, MOST_WORD_SIGNS)


def check_many(many):
    """Refuse what is no number of letters."""
    if not is_whole(many) or not 1 <= many <= MOST_LETTERS:
        raise InvalidNumber(many)


def check_count(number):
    """Refuse what is no count."""
    if not is_count(number):
        raise InvalidNumber(number)


def check_word(many, word):
    """Refuse what is no word for so many letters."""
    if not is_spelled(many, word, MOST_SIGNS):
        raise InvalidWord(word)


def check_words(many, words):
    """Refuse what is no list of words for so many letters."""
    if not is_word_list(many, words, MOST_SIGNS):
        raise InvalidList(words)


def check_short_list(many, words):
    """Refuse what is no list of words of which a group is made."""
    if not is_short_list(many, words):
        raise InvalidList(words)


def check_word_row(many, words):
    """Refuse what is no list of at most 12 words for so many letters."""
    if not is_word_list(many, words, MOST_SIGNS) or len(words) > MOST_WORDS:
        raise InvalidList(words)
