"""Lists of words and pictures of groups as texts."""

from signlanes.checks import check_many, check_short_list
from signlanes.errors import InvalidLines
from signlanes.groups import check_group, group_with
from signlanes.signs import SIGNS
from signlanes.textreading import Reading, lines_of, parts_of
from signlanes.trimming import trimmed_picture


def words_text(many, words):
    """The text of a list of words."""
    check_many(many)
    check_short_list(many, words)
    lines = [f"letters {many}"] + ["word" if word == "" else f"word {word}" for word in words]
    return ended(lines)


def picture_text(group):
    """The text of the picture of a group."""
    check_group(group)
    rows = group.lane_rows
    lines = [f"letters {group.letter_count}", f"spots {len(rows)}"]
    for sign in range(0, 2 * group.letter_count, 2):
        targets = ["-" if row[sign] is None else str(row[sign]) for row in rows]
        lines.append(" ".join([SIGNS[sign]] + targets))
    return ended(lines)


def ended(lines):
    """Lines with a line end behind each of them."""
    return "".join([line + "\n" for line in lines])


def reading_of(lines):
    """What is read of lines, and how many are taken: as many ahead as some text that is read begins with."""
    reading, taken = Reading(), 0
    while taken < len(lines) and reading.take(parts_of(lines[taken])):
        taken += 1
    return (reading, taken)


def whole_reading(text):
    """What is read of a text all lines of which are taken."""
    if not isinstance(text, str):
        raise InvalidLines(text)
    lines = lines_of(text)
    reading, taken = reading_of(lines)
    if taken < len(lines):
        raise InvalidLines(text)
    return reading


def read_words(text):
    """The number of letters and the words of a text of a list."""
    reading = whole_reading(text)
    if not reading.is_list():
        raise InvalidLines(text)
    return (reading.letter_count, reading.word_list)


def read_picture(text):
    """The group whose words are read from spot 0 back to it, for a text like that of a picture."""
    reading = whole_reading(text)
    if not reading.is_picture():
        raise InvalidLines(text)
    rows = [[None] * (2 * reading.letter_count) for _ in range(reading.spot_count)]
    for letter, targets in enumerate(reading.lane_targets):
        for spot, target in enumerate(targets):
            if target is not None:
                rows[spot][2 * letter] = target
                rows[target][2 * letter + 1] = spot
    return group_with(reading.letter_count, trimmed_picture(rows, 0))


def wrong_line(text):
    """The number of the first line up to which no text that is read begins so, None for one that is read."""
    if not isinstance(text, str):
        raise InvalidLines(text)
    lines = lines_of(text)
    reading, taken = reading_of(lines)
    if taken == len(lines) and (reading.is_list() or reading.is_picture()):
        return None
    return taken + 1
