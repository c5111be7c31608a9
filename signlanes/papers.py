"""Papers: steps that make a word of a group from the list that the group was made from."""

from signlanes.checks import check_many, check_short_list, check_word, is_count, is_whole
from signlanes.errors import InvalidPaper
from signlanes.groups import Group
from signlanes.lifts import MOST_ITEMS, Lift
from signlanes.pictures import reads_back
from signlanes.signs import reduced, undone

MOST_SAID = 10000


def said(many, words, paper):
    """The plain words that the steps of a paper over a list say."""
    check_many(many)
    check_short_list(many, words)
    found = said_words(words, paper)
    if found is None:
        raise InvalidPaper(paper)
    return found


def said_words(words, paper):
    """The plain words that the steps of a value say, None if it is no paper over a list."""
    if not isinstance(paper, list):
        return None
    known = [reduced(given) for given in words]
    for step in paper:
        if not is_step(step, len(known)):
            return None
        word = step_word(known, step)
        if len(word) > MOST_SAID:
            return None
        known.append(word)
    return known[len(words):]


def is_step(value, known):
    """Whether a value is a step behind so many words and steps."""
    if not isinstance(value, list) or len(value) > MOST_ITEMS:
        return False
    return all([is_item(item, known) for item in value])


def is_item(value, known):
    """Whether a value stands for one of so many words and steps or for its opposite."""
    if not isinstance(value, tuple) or len(value) != 2:
        return False
    number, side = value
    return is_count(number) and number < known and is_whole(side) and side in (1, -1)


def step_word(known, step):
    """What a step says, of what the words and the steps ahead of it say."""
    return reduced("".join([known[number] if side == 1 else undone(known[number]) for number, side in step]))


def paper(many, words, word):
    """A paper over a list that says what a word says, None if this is not in the group of the list."""
    group = Group(many, words)
    check_word(many, word)
    sought = reduced(word)
    if not reads_back(group.lane_rows, sought):
        return None
    return Lift(many, [reduced(given) for given in words]).paper_of(sought)


def is_paper(many, words, word, value):
    """Whether a value is a paper over a list that says what a word says."""
    check_many(many)
    check_short_list(many, words)
    check_word(many, word)
    found = said_words(words, value)
    if found is None:
        return False
    return reduced(word) == (found[-1] if found else "")
