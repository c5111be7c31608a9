"""Groups of lists of words, and their pictures."""

from signlanes.checks import check_many, check_short_list, check_word
from signlanes.errors import InvalidGroup, InvalidPicture, TooMany, Unlike
from signlanes.partings import first_parting
from signlanes.pictures import MOST_SPOTS, copied_rows, is_picture_rows, picture_rows, reads_back, spots_passed
from signlanes.signs import reduced, sign_numbers


class Group:
    """The plain words that are products of words of a list and of their opposites."""

    def __init__(self, many, words):
        check_many(many)
        check_short_list(many, words)
        rows = picture_rows(many, words)
        if len(rows) > MOST_SPOTS:
            raise TooMany(len(rows))
        self.letter_count = many
        self.lane_rows = rows

    def __eq__(self, other):
        return (isinstance(other, Group) and self.letter_count == other.letter_count
                and self.lane_rows == other.lane_rows)

    def many(self):
        """The number of letters."""
        return self.letter_count

    def rank(self):
        """The number of lanes of the picture less the number of spots, increased by 1."""
        return rows_rank(self.lane_rows)

    def picture(self):
        """A row for each spot: to which spot each sign has its lane, None if it has none."""
        return copied_rows(self.lane_rows)


def rows_rank(rows):
    """The rank of the group with such a picture."""
    ends = sum([len(row) - row.count(None) for row in rows])
    # Each lane stands in the table twice, there and back.
    return ends // 2 - len(rows) + 1


def group_with(many, rows):
    """The group with a picture that is right; it owns the rows."""
    group = Group(many, [])
    group.lane_rows = rows
    return group


def check_group(group):
    """Refuse what is no group."""
    if not isinstance(group, Group):
        raise InvalidGroup(group)


def check_group_word(group, word):
    """Refuse what is no group, then what is no word for its letters."""
    check_group(group)
    check_word(group.letter_count, word)


def check_like(one, other):
    """Refuse a second group with another number of letters."""
    if one.letter_count != other.letter_count:
        raise Unlike(other)


def is_picture(many, value):
    """Whether a value is the picture of a group with at most 300 spots."""
    check_many(many)
    return is_picture_rows(2 * many, value)


def group_of(many, picture):
    """The group with a picture."""
    check_many(many)
    if not is_picture_rows(2 * many, picture):
        raise InvalidPicture(picture)
    return group_with(many, copied_rows(picture))


def way(group, word):
    """The spots that are passed if what a word says is read from the start, as far as there are lanes."""
    check_group_word(group, word)
    return spots_passed(group.lane_rows, sign_numbers(reduced(word)))


def belongs(group, word):
    """Whether what a word says is in a group."""
    check_group_word(group, word)
    return reads_back(group.lane_rows, reduced(word))


def parting_word(one, other):
    """The first word that is in just one of two groups, None if they are equal."""
    check_group(one)
    check_group(other)
    check_like(one, other)
    return first_parting(one.lane_rows, other.lane_rows)
