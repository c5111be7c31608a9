"""Maps that lead letters to words."""

from signlanes.bases import basis_words
from signlanes.checks import MOST_LETTERS, MOST_SIGNS, MOST_WORD_SIGNS, check_many, check_word, is_word_list
from signlanes.errors import InvalidList, InvalidMap, TooLong, Unlike
from signlanes.groups import check_group, rows_rank
from signlanes.imaging import exchanged, exchanged_group, sides_of
from signlanes.joints import inner_rows, meet_rows, spots_gone_to
from signlanes.longwords import words_back
from signlanes.pictures import picture_rows, reads_back
from signlanes.signs import SIGNS, reduced
from signlanes.within import first_leader


class LetterMap:
    """A map that leads each letter to a word of a list."""

    def __init__(self, into, words):
        check_many(into)
        if not is_word_list(into, words, MOST_WORD_SIGNS) or not 1 <= len(words) <= MOST_LETTERS:
            raise InvalidList(words)
        self.into_count = into
        self.letter_words = [reduced(word) for word in words]

    def __eq__(self, other):
        return (isinstance(other, LetterMap) and self.into_count == other.into_count
                and self.letter_words == other.letter_words)

    def many(self):
        """The number of letters that are led."""
        return len(self.letter_words)

    def into(self):
        """The number of letters of the words to which they are led."""
        return self.into_count

    def words(self):
        """The plain words to which the letters are led."""
        return list(self.letter_words)


def map_with(into, words):
    """The map to plain words, which may have more signs than those of a map that is handed in."""
    found = LetterMap(into, [""])
    found.letter_words = words
    return found


def check_map(lettermap):
    """Refuse what is no map."""
    if not isinstance(lettermap, LetterMap):
        raise InvalidMap(lettermap)


def check_single(lettermap):
    """Refuse what is no map that is one to one."""
    if not is_one_to_one(lettermap):
        raise InvalidMap(lettermap)


def short_word(word):
    """A word that results, unless it has too many signs."""
    if len(word) > MOST_SIGNS:
        raise TooLong(len(word))
    return word


def image(lettermap, word):
    """The product of the words to which the letters of a word are led."""
    check_map(lettermap)
    check_word(lettermap.many(), word)
    return short_word(exchanged(sides_of(lettermap.letter_words), reduced(word)))


def composed(first, second):
    """The map that leads each letter as a map does, and then as another one does."""
    check_map(first)
    check_map(second)
    if second.many() != first.into_count:
        raise Unlike(second)
    sides = sides_of(second.letter_words)
    return map_with(second.into_count, [short_word(exchanged(sides, word)) for word in first.letter_words])


def counts(lettermap):
    """For each letter how often each letter stands in its word, less how often its opposite does."""
    check_map(lettermap)
    letters = [SIGNS[2 * at] for at in range(lettermap.into_count)]
    return [[word.count(letter) - word.count(letter.upper()) for letter in letters]
            for word in lettermap.letter_words]


def map_rows(lettermap):
    """The picture of the group of the words of a map."""
    return picture_rows(lettermap.into_count, lettermap.letter_words)


def is_onto(lettermap):
    """Whether each word is an image."""
    check_map(lettermap)
    return map_rows(lettermap) == [[0] * (2 * lettermap.into_count)]


def is_one_to_one(lettermap):
    """Whether no two plain words have the same image."""
    check_map(lettermap)
    return rows_rank(map_rows(lettermap)) == lettermap.many()


def led_back(lettermap, word):
    """The plain word whose image is what a word says, None if it is no image."""
    check_single(lettermap)
    check_word(lettermap.into_count, word)
    sought = reduced(word)
    if not reads_back(map_rows(lettermap), sought):
        return None
    return short_word(words_back(lettermap.into_count, lettermap.letter_words, [sought])[0])


def map_back(lettermap):
    """The map whose images undo those of a map that is onto and one to one, None for others."""
    if not is_onto(lettermap) or lettermap.many() != lettermap.into_count:
        return None
    letters = [SIGNS[2 * at] for at in range(lettermap.into_count)]
    words = words_back(lettermap.into_count, lettermap.letter_words, letters)
    return map_with(lettermap.into_count, [short_word(word) for word in words])


def group_led(lettermap, group):
    """The group of the images of all words of a group."""
    check_map(lettermap)
    check_group(group)
    if group.letter_count != lettermap.many():
        raise Unlike(group)
    return exchanged_group(lettermap.into_count, group.lane_rows, lettermap.letter_words)


def group_led_back(lettermap, group):
    """The group of all plain words whose images are in a group."""
    check_single(lettermap)
    check_group(group)
    if group.letter_count != lettermap.into_count:
        raise Unlike(group)
    # What the group and that of all images have in common is told by the basis of the latter, and
    # each word of this basis by the letters whose image it is.
    whole = map_rows(lettermap)
    shared = meet_rows(group.lane_rows, whole)
    inner = inner_rows(shared, whole, spots_gone_to(shared, whole))
    words = words_back(lettermap.into_count, lettermap.letter_words, basis_words(whole))
    return exchanged_group(lettermap.many(), inner, words)


def leader_between(one, other):
    """The first word that leads the word of each letter by a map to that by another one, None without one."""
    check_map(one)
    check_map(other)
    if one.many() != other.many() or one.into_count != other.into_count:
        raise Unlike(other)
    return first_leader(one.into_count, list(zip(one.letter_words, other.letter_words)))
