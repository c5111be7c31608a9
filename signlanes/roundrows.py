"""Rows of round words, and the cuts and renamings that turn them."""

from signlanes.checks import MOST_SIGNS, check_many, is_word_list
from signlanes.cuts import cut_back, is_cut_or_renaming, sides_of_cut
from signlanes.errors import InvalidList, InvalidMove, TooLong
from signlanes.imaging import exchanged
from signlanes.signs import SIGNS, reduced
from signlanes.turns import first_of_turns
from signlanes.words import split_hair

MOST_ROUND_WORDS = 4


def is_round_row(many, value):
    """Whether a value is a list of round words, each the first one of its turns."""
    check_many(many)
    return is_round_list(many, value)


def is_round_list(many, value):
    """The same without the check of the number of letters."""
    if not is_word_list(many, value, MOST_SIGNS) or not 1 <= len(value) <= MOST_ROUND_WORDS:
        return False
    return all([word != "" and ring_turned(reduced(word)) == word for word in value])


def ring_turned(word):
    """The first turn of the ring of a plain word."""
    _, ring = split_hair(word)
    return first_of_turns(ring)


def row_of(many, words):
    """The first turns of the rings of what the words of a list say."""
    check_many(many)
    if not is_word_list(many, words, MOST_SIGNS) or not 1 <= len(words) <= MOST_ROUND_WORDS:
        raise InvalidList(words)
    said = [reduced(word) for word in words]
    if "" in said:
        raise InvalidList(words)
    return [ring_turned(word) for word in said]


def is_cut(many, value):
    """Whether a value is a cut or a renaming."""
    check_many(many)
    return is_cut_or_renaming(many, value)


def check_round_row(many, row):
    """Refuse what is no row of round words for so many letters."""
    check_many(many)
    if not is_round_list(many, row):
        raise InvalidList(row)


def check_cut(many, cut):
    """Refuse what is no cut and no renaming."""
    if not is_cut_or_renaming(many, cut):
        raise InvalidMove(cut)


def row_moved(many, row, cut):
    """The row of the words into which a cut or a renaming turns those of a row."""
    check_round_row(many, row)
    check_cut(many, cut)
    return turned_row(many, row, cut)


def turned_row(many, row, cut):
    """The same without checks."""
    return [ring_turned(word) for word in words_turned(many, row, cut)]


def undoing(many, cut):
    """The cut or the renaming that leads back what another one has led."""
    check_many(many)
    check_cut(many, cut)
    return cut_back(cut)


def letter_images(many, cuts):
    """The plain words into which the letters are turned by the cuts and renamings of a list, one behind the other."""
    check_many(many)
    if not isinstance(cuts, list) or not all([is_cut_or_renaming(many, item) for item in cuts]):
        raise InvalidList(cuts)
    words = [SIGNS[2 * letter] for letter in range(many)]
    for cut in cuts:
        words = words_turned(many, words, cut)
        check_sizes(words)
    return words


def words_turned(many, words, cut):
    """The plain words into which a cut or a renaming turns plain words."""
    sides = sides_of_cut(many, cut)
    return [exchanged(sides, word) for word in words]


def check_sizes(words):
    """Refuse words of which one has too many signs."""
    for word in words:
        if len(word) > MOST_SIGNS:
            raise TooLong(len(word))
