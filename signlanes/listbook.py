"""Books of lists of words and of the deeds on them."""

from signlanes.checks import check_word, is_count
from signlanes.errors import (InvalidBook, InvalidFlag, InvalidList, InvalidNumber, NothingToRedo,
                              NothingToUndo)
from signlanes.groups import Group
from signlanes.joints import spots_gone_to
from signlanes.listdeeds import changed
from signlanes.partings import first_parting
from signlanes.pictures import reads_back
from signlanes.signs import reduced


class ListBook:
    """The plain words of a list, and what is done with them.

    An entry is a tuple of a deed, the list that stands behind it, and the group of this list; the
    first entry has no deed. Nothing in an entry is ever changed, so books may share them.
    """

    def __init__(self, many, words):
        group = Group(many, words)
        self.letter_count = many
        self.entries = [(None, [reduced(word) for word in words], group)]
        self.undone_entries = []

    def __eq__(self, other):
        return (isinstance(other, ListBook) and self.letter_count == other.letter_count
                and self.entries[0][1] == other.entries[0][1]
                and [entry[0] for entry in self.entries] == [entry[0] for entry in other.entries])

    @property
    def standing(self):
        """The list that stands now."""
        return list(self.entries[-1][1])

    @property
    def group(self):
        """The group of the list that stands now."""
        return self.entries[-1][2]

    @property
    def many_deeds(self):
        """The number of deeds that stand."""
        return len(self.entries) - 1

    def do(self, deed):
        """Do a deed on the list that stands now."""
        self.entries.append(entry_behind(self.letter_count, self.entries[-1][1], deed))
        self.undone_entries = []

    def undo(self):
        """Undo the last deed that stands."""
        if len(self.entries) == 1:
            raise NothingToUndo()
        self.undone_entries.append(self.entries.pop())

    def redo(self):
        """Do again the deed that was undone last."""
        if self.undone_entries == []:
            raise NothingToRedo()
        self.entries.append(self.undone_entries.pop())

    def together(self, deeds, *, keep=True):
        """Do the deeds of a list one after the other; the list of words that they make is returned."""
        if not isinstance(deeds, list):
            raise InvalidList(deeds)
        if not isinstance(keep, bool):
            raise InvalidFlag(keep)
        entries = list(self.entries)
        for deed in deeds:
            entries.append(entry_behind(self.letter_count, entries[-1][1], deed))
        if keep and deeds != []:
            self.entries = entries
            self.undone_entries = []
        return list(entries[-1][1])

    def log(self):
        """The deeds that stand, as they were handed in."""
        return [copied_deed(deed) for deed, _, _ in self.entries[1:]]

    def groups(self):
        """The groups of the first list and behind each deed that stands."""
        return [group for _, _, group in self.entries]

    def copy(self):
        """A book of its own, with what is undone."""
        book = ListBook(self.letter_count, self.entries[0][1])
        book.entries = list(self.entries)
        book.undone_entries = list(self.undone_entries)
        return book


def copied_deed(deed):
    """A deed with lists of its own."""
    return tuple([list(part) if isinstance(part, list) else part for part in deed])


def entry_behind(many, words, deed):
    """The entry of a deed on a list."""
    found = changed(many, words, deed)
    return (copied_deed(deed), found, Group(many, found))


def check_book(book):
    """Refuse what is no book."""
    if not isinstance(book, ListBook):
        raise InvalidBook(book)


def picture_behind(book, since):
    """The picture of the group behind the first deeds of a book, so many of them."""
    check_book(book)
    if not is_count(since) or since >= len(book.entries):
        raise InvalidNumber(since)
    return book.entries[since][2].lane_rows


def member_since(book, word):
    """The least number of deeds behind which, and behind all further ones, a word is in the group; None without one."""
    check_book(book)
    check_word(book.letter_count, word)
    said, since = reduced(word), len(book.entries)
    while since > 0 and reads_back(book.entries[since - 1][2].lane_rows, said):
        since -= 1
    return None if since == len(book.entries) else since


def parting_since(book, since):
    """The first word that is in just one of the group behind the first deeds and the group now, None without one."""
    rows = picture_behind(book, since)
    return first_parting(rows, book.entries[-1][2].lane_rows)


def spot_since(book, since, spot):
    """The spot of the picture now to which one of the picture behind the first deeds goes, None if it need not."""
    rows = picture_behind(book, since)
    if not is_count(spot) or spot >= len(rows):
        raise InvalidNumber(spot)
    goes = spots_gone_to(rows, book.entries[-1][2].lane_rows)
    return None if goes is None else goes[spot]
