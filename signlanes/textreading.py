"""Texts of lists and of pictures, read line by line."""

from signlanes.checks import MOST_LETTERS, MOST_WORD_SIGNS, MOST_WORDS, is_spelled
from signlanes.pictures import MOST_SPOTS
from signlanes.signs import SIGNS

FIGURES = "0123456789"
MOST_FIGURES = 3


def lines_of(text):
    """The lines of a text; the last one need not be ended."""
    lines = text.split("\n")
    return lines[:-1] if lines[-1] == "" else lines


def parts_of(line):
    """The words of a line, without what is behind a `#`."""
    kept, _, _ = line.partition("#")
    return [part for part in kept.split(" ") if part != ""]


def number_in(part, low, high):
    """The number that a word of a line is, None unless it is one between two."""
    if part.strip(FIGURES) != "" or not 1 <= len(part) <= MOST_FIGURES or part[0] == "0" and part != "0":
        return None
    number = int(part)
    return number if low <= number <= high else None


class Reading:
    """What has been read of a text: the letters, and then either words or spots with their lanes."""

    def __init__(self):
        self.letter_count = None
        self.word_list = []
        self.spot_count = None
        self.lane_targets = []

    def take(self, parts):
        """Read the words of a line; whether some text that is read goes on so."""
        if parts == []:
            return True
        if self.letter_count is None:
            return self.take_letters(parts)
        if self.spot_count is not None:
            return self.take_lanes(parts)
        if parts[0] == "word":
            return self.take_word(parts[1:])
        return self.word_list == [] and self.take_spots(parts)

    def take_letters(self, parts):
        """Read a line that tells the number of letters."""
        if len(parts) == 2 and parts[0] == "letters":
            self.letter_count = number_in(parts[1], 1, MOST_LETTERS)
        return self.letter_count is not None

    def take_spots(self, parts):
        """Read a line that tells the number of spots."""
        if len(parts) == 2 and parts[0] == "spots":
            self.spot_count = number_in(parts[1], 1, MOST_SPOTS)
        return self.spot_count is not None

    def take_word(self, parts):
        """Read a line with a word, or with none for the empty word."""
        word = "".join(parts)
        if len(parts) > 1 or len(self.word_list) == MOST_WORDS:
            return False
        if not is_spelled(self.letter_count, word, MOST_WORD_SIGNS):
            return False
        self.word_list.append(word)
        return True

    def take_lanes(self, parts):
        """Read a line with the lanes of the next letter."""
        if self.is_picture() or parts[0] != SIGNS[2 * len(self.lane_targets)] or len(parts) != self.spot_count + 1:
            return False
        found = [number_in(part, 0, self.spot_count - 1) for part in parts[1:]]
        numbers = [number for number in found if number is not None]
        if len(numbers) + parts.count("-") != self.spot_count or len(set(numbers)) != len(numbers):
            return False
        self.lane_targets.append(found)
        return True

    def is_list(self):
        """Whether what has been read is a text of a list."""
        return self.letter_count is not None and self.spot_count is None

    def is_picture(self):
        """Whether what has been read is a text of a picture."""
        return self.spot_count is not None and len(self.lane_targets) == self.letter_count
