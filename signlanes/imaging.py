"""What words and groups become if letters are exchanged for words."""

from signlanes.errors import TooMany
from signlanes.groups import group_with
from signlanes.pictures import MOST_SPOTS, Weave, numbered_rows, picture_rows
from signlanes.signs import sign_numbers, undone
from signlanes.strands import Strands, table_of_strands
from signlanes.trimming import trimmed_picture


def sides_of(words):
    """For each sign the word for which it is exchanged."""
    return [side for word in words for side in (word, undone(word))]


def exchanged(sides, word):
    """What a word says if each sign is exchanged for a plain word."""
    kept = []
    for number in sign_numbers(word):
        side, gone = sides[number], 0
        # Both parts are plain, so signs fall away only where they meet.
        while gone < len(side) and kept and kept[-1] == side[gone].swapcase():
            kept.pop()
            gone += 1
        kept.extend(side[gone:])
    return "".join(kept)


def exchanged_group(many, rows, words):
    """The group, for so many letters, of what the words of a group with a picture become.

    The lanes of each letter in that picture are exchanged for ways of its word. They are put together
    strand by strand of the picture of all words, since there may be far too many signs.
    """
    strands = Strands(picture_rows(many, words))
    ways = [strands.read(sign_numbers(word)) for word in words]
    weave = Weave(2 * len(strands.ways))
    first = weave.put_table([[None] * weave.size for _ in rows])
    for spot, row in enumerate(rows):
        for letter, numbers in enumerate(ways):
            if row[2 * letter] is not None:
                weave.put_path(weave.living(first + spot), weave.living(first + row[2 * letter]), numbers)
    start = weave.living(first)
    pruned = trimmed_picture(weave.lanes, start)
    found = strands.strands_in(pruned)
    spots = len(pruned) + sum([len(signs) - 1 for _, signs, _ in found])
    if spots > MOST_SPOTS:
        raise TooMany(spots)
    return group_with(many, numbered_rows(table_of_strands(2 * many, len(pruned), found), 0))
