"""Tests of promises 60 and 61."""

import unittest

from signlanes.errors import FoldError, InvalidGroup, InvalidLines, InvalidList, InvalidNumber
from signlanes.groups import Group, group_of
from signlanes.grouptexts import picture_text, read_picture, read_words, words_text, wrong_line
from tests.helpers import (ODD, WRONG_GROUP, WRONG_LIST, WRONG_MANY, chance_of, check_error, check_owned, check_quick,
                           check_wrong, full_picture, plain_words, random_group, random_list, random_word, told)

NO_TEXT = ODD + [0, 3, [], ["letters 2"], ("letters 2",), ["letters 2\n"]]


def is_read(text):
    """Whether one of both functions reads a text."""
    errors = [told(read, text) for read in (read_words, read_picture)]
    for error in errors:
        assert error is None or type(error) is InvalidLines and error.value is text
    return None in errors


def slow_wrong_line(text, endings):
    """The first line up to which none of some endings makes a text that is read; None for a text that is."""
    if is_read(text):
        return None
    lines = text.split("\n")
    lines = lines[:-1] if lines[-1] == "" else lines
    for number in range(len(lines) + 1):
        start = "".join(line + "\n" for line in lines[:number])
        if not any(is_read(start + ending) for ending in endings):
            return number
    return len(lines) + 1


def slow_words(many, rows, most):
    """The plain words with at most so many signs that rows of lanes read from spot 0 back to it."""
    found = []
    for word in plain_words(many, most):
        at = 0
        for sign in word:
            at = rows[at].get(sign) if at is not None else None
        if at == 0:
            found.append(word)
    return found


class ExampleTest(unittest.TestCase):
    def test_examples(self):
        self.assertEqual([words_text(2, ["abA", ""]), picture_text(Group(2, ["abA"]))],
                         ["letters 2\nword abA\nword\n", "letters 2\nspots 2\na 1 -\nb - 1\n"])
        self.assertEqual([read_words("letters 1 # one\n\n word  aA\n word"),
                          read_picture("letters 2\nspots 3\na 2 - -\nb - 0 2") == Group(2, ["abA"])],
                         [(1, ["aA", ""]), True])
        self.assertEqual([wrong_line("letters 2\nword abc\n"), wrong_line("letters 2\nspots 2\na 1 1\n"),
                          wrong_line("letters 2\nspots 2\na 1 -\n"), wrong_line("letters 2")], [2, 3, 4, None])

    def test_names_of_arguments(self):
        self.assertEqual(words_text(many=1, words=[]), "letters 1\n")
        self.assertEqual(picture_text(group=Group(1, [])), "letters 1\nspots 1\na -\n")
        self.assertEqual(read_words(text="letters 1"), (1, []))
        self.assertEqual(read_picture(text="letters 1\nspots 1\na 0"), Group(1, ["a"]))
        self.assertIsNone(wrong_line(text="letters 1"))


class WordsTextTest(unittest.TestCase):
    def test_written_and_read(self):
        chance = chance_of(290)
        for _ in range(150):
            many = chance.randint(1, 6)
            words = random_list(chance, many, 11, 9)
            text = words_text(many, words)
            self.assertEqual(text.split("\n"), [f"letters {many}"] + [f"word {word}".strip() for word in words] + [""])
            self.assertEqual(check_owned(self, read_words, text), (many, words))
            self.assertEqual(read_words(loosened(chance, text)), (many, words))
            self.assertIsNone(wrong_line(text))
            self.assertIs(type(told(read_picture, text)), InvalidLines)

    def test_edges(self):
        self.assertEqual(read_words("letters 6"), (6, []))
        self.assertEqual(read_words("  letters   2  #\n#\n   \n# word a\nword#a\nword # a\nword a#b#c\n"),
                         (2, ["", "", "a"]))
        twelve = "letters 1\n" + "word aA\n" * 12
        self.assertEqual(read_words(twelve), (1, ["aA"] * 12))
        self.assertEqual(words_text(1, ["aA"] * 12), twelve)
        thirteen = twelve + "word\n"
        check_error(self, read_words, [thirteen], InvalidLines, thirteen)
        self.assertEqual([wrong_line(thirteen), wrong_line(twelve + "\n# word\n")], [14, None])
        long = "letters 2\nword " + "a" * 200
        self.assertEqual(read_words(long), (2, ["a" * 200]))
        self.assertEqual([told(read_words, long + "a") is None, wrong_line(long + "a")], [False, 2])

    def test_wrong(self):
        check_wrong(self, words_text, [2, ["a"]], [(0, InvalidNumber, WRONG_MANY), (1, InvalidList, WRONG_LIST)])
        for value in NO_TEXT:
            check_error(self, read_words, [value], InvalidLines, value)


def loosened(chance, text):
    """A text with blanks, remarks and lines without a word put in."""
    lines = []
    for line in text.rstrip("\n").split("\n"):
        while chance.random() < 0.3:
            lines.append(chance.choice(["", "   ", "# word a", "  #letters 3 #", "#"]))
        line = line.replace(" ", " " * chance.randint(1, 3))
        line = " " * chance.randint(0, 2) + line + " " * chance.randint(0, 2)
        lines.append(line + chance.choice(["", "", "#", " # a 1 2\t~", "#word"]))
    return "\n".join(lines) + chance.choice(["", "\n", "\n\n", "\n#", "\n \n"])


class PictureTextTest(unittest.TestCase):
    def test_written_and_read(self):
        chance = chance_of(291)
        texts = {}
        for _ in range(150):
            many = chance.randint(1, 6)
            group = random_group(chance, many, 3, 5)
            text, rows = picture_text(group), group.picture()
            lines = text.split("\n")
            self.assertEqual(lines[:2] + lines[-1:], [f"letters {many}", f"spots {len(rows)}", ""])
            for letter, line in enumerate(lines[2:-1]):
                self.assertEqual(line.split(" "), ["abcdef"[letter]] + ["-" if row[2 * letter] is None else
                                                                        str(row[2 * letter]) for row in rows])
            self.assertEqual(read_picture(text), group)
            self.assertEqual(read_picture(loosened(chance, text)), group)
            self.assertIsNone(wrong_line(text))
            self.assertEqual(texts.setdefault(text, group), group)
            self.assertIs(type(told(read_words, text)), InvalidLines)
        for one in list(texts)[:40]:
            for other in list(texts)[:40]:
                self.assertIs(texts[one] == texts[other], one == other)

    def test_other_pictures(self):
        chance = chance_of(292)
        for _ in range(150):
            many, spots = chance.randint(1, 3), chance.randint(1, 7)
            rows = [{} for _ in range(spots)]
            lines = [f"letters {many}", f"spots {spots}"]
            for letter in "abc"[:many]:
                targets = [str(spot) for spot in range(spots)]
                chance.shuffle(targets)
                targets = [target if chance.random() < 0.6 else "-" for target in targets]
                lines.append(" ".join([letter] + targets))
                for spot, target in enumerate(targets):
                    if target != "-":
                        rows[spot][letter], rows[int(target)][letter.upper()] = int(target), spot
            text = "\n".join(lines)
            group = read_picture(text)
            most = 6 if many == 2 else 9 if many == 1 else 4
            own = [dict((sign, end) for sign, end in zip("aAbBcC", row) if end is not None) for row in group.picture()]
            self.assertEqual(slow_words(many, own, most), slow_words(many, rows, most))
            self.assertEqual(group_of(many, group.picture()), group)
            self.assertEqual(read_picture(picture_text(group)), group)

    def test_numbers_of_spots_are_free(self):
        chance = chance_of(293)
        for _ in range(60):
            group = random_group(chance, 2, 3, 5)
            rows = group.picture()
            names = list(range(1, len(rows)))
            chance.shuffle(names)
            names = [0] + names
            lines = ["letters 2", f"spots {len(rows)}"]
            for sign in (0, 2):
                ends = {names[spot]: row[sign] for spot, row in enumerate(rows)}
                lines.append(" ".join(["ab"[sign // 2]] + ["-" if ends[spot] is None else str(names[ends[spot]])
                                                           for spot in range(len(rows))]))
            self.assertEqual(read_picture("\n".join(lines)), group)

    def test_edges(self):
        self.assertEqual(read_picture("letters 1\nspots 1\na -"), Group(1, []))
        self.assertEqual(read_picture("letters 2\nspots 2\na - 1\nb - 0"), Group(2, ["Bab"]))
        self.assertEqual(read_picture("letters 2\nspots 2\na 1 -\nb - -"), Group(2, []))
        self.assertEqual(read_picture("letters 2\nspots 3\na 0 2 1\nb - - -"), Group(2, ["a"]))
        self.assertEqual(read_picture("letters 1\nspots 3\na - 2 1"), Group(1, []))
        chance = chance_of(294)
        for many in (2, 6):
            group = group_of(many, full_picture(chance, many, 300))
            text = picture_text(group)
            self.assertEqual(check_quick(self, 3, read_picture, text), group)
        ring = " ".join(["a"] + [str((at + 1) % 300) for at in range(300)])
        self.assertEqual(len(read_picture("letters 1\nspots 300\n" + ring).picture()), 300)
        ring = " ".join(["a"] + [str((at + 1) % 301) for at in range(301)])
        self.assertEqual(wrong_line("letters 1\nspots 301\n" + ring), 2)

    def test_wrong(self):
        check_wrong(self, picture_text, [Group(2, ["a"])], [(0, InvalidGroup, WRONG_GROUP)])
        for value in NO_TEXT:
            check_error(self, read_picture, [value], InvalidLines, value)


# Texts with the number of their first wrong line, None for those that are read.
LINES = [("", 1), ("\n", 2), ("#", 2), (" \n\n", 3), ("letters", 1), ("letters 0", 1), ("letters 7", 1), ("letters 02", 1),
         ("letters 2 2", 1), ("letters two", 1), ("letters -1", 1), ("letters +2", 1), ("Letters 2", 1), ("letters2", 1),
         ("letters 2\t", 1), ("\tletters 2", 1), ("letters\t2", 1), ("letters 2 # \t", None), ("letters 2#", None),
         ("letters #2", 1), ("# letters 2", 2), ("letters 1" + "0" * 30, 1), ("word a\nletters 2", 1), ("spots 1", 1),
         ("a 0", 1), ("letters 2\nletters 2", 2), ("letters 1\n\n\nword b", 4), ("letters 1\nword a b", 2),
         ("letters 1\nword a A", 2), ("letters 1\nword -", 2), ("letters 1\nwords a", 2), ("letters 1\nworda", 2),
         ("letters 1\na", 2), ("letters 1\nWord a", 2), ("letters 1\nword a\t", 2), ("letters 1\nword 1", 2),
         ("letters 1\nword a\nspots 1", 3), ("letters 1\nword\nspots 1\na 0", 3), ("letters 1\nspots 1\nword a", 3),
         ("letters 1\nspots 1\na 0\nword a", 4), ("letters 1\nspots 1\na 0\n# word a\n\n", None),
         ("letters 1\nspots 1\na 0\na 0", 4), ("letters 1\nspots 1\na 0\nspots 1", 4), ("letters 1\nspots 1", 3),
         ("letters 1\nspots 1\n", 3), ("letters 1\nspots 1\n\n", 4), ("letters 1\nspots 0", 2), ("letters 1\nspots 01", 2),
         ("letters 1\nspots 300", 3), ("letters 1\nspots 301", 2), ("letters 1\nspots", 2), ("letters 1\nspots 1 1", 2),
         ("letters 1\nspots -", 2), ("letters 1\nspots 1\nb 0", 3), ("letters 1\nspots 1\nA 0", 3),
         ("letters 1\nspots 1\n0", 3), ("letters 1\nspots 1\na", 3), ("letters 1\nspots 1\na 0 0", 3),
         ("letters 1\nspots 1\na 1", 3), ("letters 1\nspots 1\na 00", 3), ("letters 1\nspots 1\na --", 3),
         ("letters 1\nspots 1\na -0", 3), ("letters 1\nspots 1\na - # 0", None), ("letters 1\nspots 1\na # -", 3),
         ("letters 1\nspots 2\na 0 0", 3), ("letters 1\nspots 2\na 1 1", 3), ("letters 1\nspots 2\na - -", None),
         ("letters 1\nspots 2\na 1 0", None), ("letters 1\nspots 2\na 0", 3), ("letters 1\nspots 2\na 1 2", 3),
         ("letters 1\nspots 2\na 01 -", 3), ("letters 1\nspots 11\na " + "- " * 10 + "10", None),
         ("letters 1\nspots 11\na " + "- " * 10 + "11", 3), ("letters 2\nspots 1\nb 0\na 0", 3),
         ("letters 2\nspots 1\na 0\na 0", 4), ("letters 2\nspots 1\na 0", 4), ("letters 2\nspots 1\na 0\nb 0\nc 0", 5),
         ("letters 2\nspots 1\na 0\n\n \nb 0", None), ("letters 2\nspots 1\na 0\n\n \nb 1", 6), ("~", 1),
         ("letters 6\nspots 1\na -\nb -\nc -\nd -\ne -\nf -", None), ("letters 6\nspots 1\na -\nb -\nc -\nd -\ne -", 8),
         ("letters 2\nword " + "a" * 201, 2), ("letters 2\nword " + "a" * 200 + "\nword c", 3)]


class WrongLineTest(unittest.TestCase):
    def test_each_kind_of_line(self):
        for text, number in LINES:
            self.assertEqual(wrong_line(text), number, text)
            self.assertIs(is_read(text), number is None, text)
            # A last line that is ended is the same line.
            if text and not text.endswith("\n"):
                self.assertEqual(wrong_line(text + "\n"), number, text)

    def test_against_endings(self):
        chance = chance_of(295)
        endings = ["letters 1", "letters 2", "", "word", "spots 1\na -", "spots 2\na - -", "spots 1\na -\nb -", "a -", "b -",
                   "a - -", "b - -", "spots 2\na - -\nb - -", "a -\nb -", "a - -\nb - -"]
        parts = ["letters 1", "letters 2", "word", "word a", "word b", "spots 1", "spots 2", "a 0", "a -", "b 0", "a 0 1",
                 "b - 0", "", "# a", "a 1 1", "b 1 0", "word aA b", "spots 0"]
        numbers = {}
        for _ in range(600):
            lines = [chance.choice(parts[:2])] if chance.random() < 0.9 else []
            lines += [chance.choice(parts) for _ in range(chance.randint(0, 4))]
            text = "\n".join(lines)
            found = wrong_line(text)
            self.assertEqual(found, slow_wrong_line(text, endings), text)
            numbers[found] = numbers.get(found, 0) + 1
        self.assertTrue(set(numbers) >= {None, 1, 2, 3, 4})

    def test_texts_cut_short(self):
        chance = chance_of(296)
        for _ in range(30):
            many = chance.randint(1, 3)
            text = picture_text(random_group(chance, many, 3, 4))
            lines = text.split("\n")[:-1]
            self.assertEqual(wrong_line(lines[0]), None)
            for size in range(2, len(lines)):
                self.assertEqual(wrong_line("\n".join(lines[:size])), size + 1)
                self.assertEqual(wrong_line("\n".join(lines[:size]) + "\n\n"), size + 2)
            for at in range(len(lines)):
                self.assertEqual(wrong_line("\n".join(lines[:at] + ["?"] + lines[at:])), at + 1)

    def test_random_texts(self):
        chance = chance_of(297)
        for _ in range(200):
            text = words_text(2, [random_word(chance, 2, 3)])
            at = chance.randrange(len(text) + 1)
            text = text[:at] + chance.choice(" #\n\tab0-~AlwB1") + text[at:]
            try:
                self.assertIs(wrong_line(text) is None, is_read(text))
            except FoldError:
                self.fail(text)

    def test_limits(self):
        text = "letters 2\n" + "# remark\n" * 20000 + "word a" + " " * 10000 + "\n"
        self.assertIsNone(check_quick(self, 5, wrong_line, text))
        self.assertEqual(read_words(text), (2, ["a"]))
        self.assertEqual(check_quick(self, 5, wrong_line, "letters 1" + "1" * 100000), 1)
        self.assertEqual(check_quick(self, 5, wrong_line, "letters 1\nspots 9\na" + " 9" * 100000), 3)

    def test_wrong(self):
        for value in NO_TEXT:
            check_error(self, wrong_line, [value], InvalidLines, value)


if __name__ == "__main__":
    unittest.main()
