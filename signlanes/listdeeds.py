"""Deeds that change lists of words."""

from signlanes.checks import check_many, check_short_list
from signlanes.deedlists import list_behind
from signlanes.errors import InvalidDeed, InvalidPaper
from signlanes.groups import check_group, check_like
from signlanes.joints import spots_gone_to
from signlanes.papers import said_words
from signlanes.pictures import picture_rows


def is_deed(many, words, value):
    """Whether a value is a deed on a list."""
    check_many(many)
    check_short_list(many, words)
    return list_behind(many, words, value) is not None


def changed(many, words, deed):
    """The list of plain words that a deed makes of a list."""
    check_many(many)
    check_short_list(many, words)
    found = list_behind(many, words, deed)
    if found is None:
        raise InvalidDeed(deed)
    return found


def keeps_group(many, words, deed):
    """Whether the list that a deed makes has the same group."""
    found = changed(many, words, deed)
    return picture_rows(many, found) == picture_rows(many, words)


def paper_behind(many, words, deed, paper):
    """A paper over the list that a deed makes, which says what a paper over a list says."""
    changed(many, words, deed)
    if deed[0] not in ("oppose", "exchange", "times"):
        raise InvalidDeed(deed)
    if said_words(words, paper) is None:
        raise InvalidPaper(paper)
    if deed[0] == "times":
        return paper_with_step(len(words), deed, paper)
    return [[item_behind(deed, number, side) for number, side in step] for step in paper]


def item_behind(deed, number, side):
    """What stands for the same behind a deed that turns a word about or exchanges two."""
    if deed[0] == "oppose":
        return (number, -side if number == deed[1] else side)
    _, one, other = deed
    if number == one:
        return (other, side)
    return (one if number == other else number, side)


def paper_with_step(given, deed, paper):
    """A paper with a step ahead that says what a word said ahead of the other one that follows it now."""
    _, one, other, side = deed
    if paper == []:
        return []
    found = [[(one, 1), (other, -side)]]
    for step in paper:
        # The new step has the number behind those of the words; all other steps have one more than they had.
        found.append([(given if number == one else number + 1 if number >= given else number, turn)
                      for number, turn in step])
    return found


def spots_led(one, other):
    """The spots of a picture to which those of another one go, None if not all its words are in that group."""
    check_group(one)
    check_group(other)
    check_like(one, other)
    return spots_gone_to(one.lane_rows, other.lane_rows)
