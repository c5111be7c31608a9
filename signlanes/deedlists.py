"""What deeds make of lists of words, without checks of these."""

from signlanes.checks import MOST_SIGNS, MOST_WORD_SIGNS, MOST_WORDS, is_count, is_spelled, is_whole, is_word_list
from signlanes.imaging import exchanged, sides_of
from signlanes.signs import glued, reduced, undone


def are_places(size, parts):
    """Whether values are numbers of words of a list of so many, no two of which are the same."""
    return all([is_count(part) and part < size for part in parts]) and len(set(parts)) == len(parts)


def put_list(many, words, parts):
    """The list with a word put in, None for what is no deed; so in all functions here."""
    if len(parts) != 2 or not is_count(parts[0]) or not is_spelled(many, parts[1], MOST_SIGNS):
        return None
    at, word = parts
    return None if at > len(words) else words[:at] + [reduced(word)] + words[at:]


def taken_list(many, words, parts):
    """The list with a word left out."""
    if len(parts) != 1 or not are_places(len(words), parts):
        return None
    return words[:parts[0]] + words[parts[0] + 1:]


def opposed_list(many, words, parts):
    """The list with the opposite of a word in its place."""
    if len(parts) != 1 or not are_places(len(words), parts):
        return None
    return [undone(word) if at == parts[0] else word for at, word in enumerate(words)]


def exchanged_list(many, words, parts):
    """The list with two words exchanged."""
    if len(parts) != 2 or not are_places(len(words), parts):
        return None
    one, other = parts
    found = list(words)
    found[one], found[other] = words[other], words[one]
    return found


def multiplied_list(many, words, parts):
    """The list with a word followed by another one or by its opposite."""
    if len(parts) != 3 or not are_places(len(words), parts[:2]) or not is_whole(parts[2]) or parts[2] not in (1, -1):
        return None
    one, other, side = parts
    found = list(words)
    found[one] = glued(words[one], words[other] if side == 1 else undone(words[other]))
    return found


def led_list(many, words, parts):
    """The list of the words to which a word leads those of a list."""
    if len(parts) != 1 or not is_spelled(many, parts[0], MOST_SIGNS):
        return None
    lead = reduced(parts[0])
    return [glued(glued(undone(lead), word), lead) for word in words]


def replaced_list(many, words, parts):
    """The list with each letter replaced by a word."""
    if len(parts) != 1 or not is_word_list(many, parts[0], MOST_WORD_SIGNS) or len(parts[0]) != many:
        return None
    sides = sides_of([reduced(word) for word in parts[0]])
    return [exchanged(sides, word) for word in words]


LISTS_BY_KIND = {"put": put_list, "take": taken_list, "oppose": opposed_list, "exchange": exchanged_list,
                 "times": multiplied_list, "lead": led_list, "change": replaced_list}


def list_behind(many, words, deed):
    """The list of plain words that a value makes of a list, None unless it is a deed on it."""
    if not isinstance(deed, tuple) or len(deed) == 0 or not isinstance(deed[0], str) or deed[0] not in LISTS_BY_KIND:
        return None
    make = LISTS_BY_KIND[deed[0]]
    found = make(many, [reduced(word) for word in words], deed[1:])
    if found is None or len(found) > MOST_WORDS or max([len(word) for word in found], default=0) > MOST_WORD_SIGNS:
        return None
    return found
