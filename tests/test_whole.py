"""The parts of the program agree with one another where the document says that one thing is so if another one is."""

import unittest

from signlanes.bases import basis, is_basis, least_lengths
from signlanes.blocks import basis_with, blocks
from signlanes.chains import chain, collapse, least_row
from signlanes.classes import class_of, how_many_classes
from signlanes.groups import Group, belongs, group_of, is_picture, parting_word, way
from signlanes.grouptexts import picture_text, read_picture, read_words, words_text, wrong_line
from signlanes.leastrows import least, least_paper
from signlanes.ledrows import is_led, rows_led
from signlanes.lettermaps import (LetterMap, composed, group_led, group_led_back, image, is_one_to_one, is_onto,
                                  led_back, map_back)
from signlanes.listbook import ListBook, member_since, parting_since, spot_since
from signlanes.listdeeds import changed, is_deed, keeps_group, paper_behind, spots_led
from signlanes.meets import inside, led, meet
from signlanes.members import member_number, member_numbered
from signlanes.moves import is_move, moved
from signlanes.papers import is_paper, paper, said
from signlanes.roundrows import letter_images, row_moved, row_of
from signlanes.setnumbers import how_many_in, how_many_of, place_in, word_in
from signlanes.setproducts import group_words, images, made_group
from signlanes.turns import first_turn, leader
from signlanes.wordsets import first_unlike_word, within
from tests.helpers import chance_of, mixed_list, random_group, random_list, random_word, say, told
from tests.test_listdeeds import random_deed
from tests.test_roundrows import random_cut, random_row

LETTERS = "abcdef"


class GroupTest(unittest.TestCase):
    def test_groups_texts_and_sets(self):
        chance = chance_of(320)
        alike = 0
        for _ in range(60):
            many = chance.randint(1, 3)
            words = random_list(chance, many, 3, 4) or ["ab"[:many]]
            one = Group(many, words)
            other = chance.choice([random_group(chance, many, 3, 4), Group(many, mixed_list(chance, many, words, 6, 12))])
            same = one == other
            alike += same
            self.assertIs(picture_text(one) == picture_text(other), same)
            self.assertIs(parting_word(one, other) is None, same)
            self.assertEqual(read_picture(picture_text(one)), one)
            self.assertIs(is_picture(many, one.picture()), True)
            self.assertEqual(group_of(many, one.picture()), one)
            one_set, other_set = group_words(one), group_words(other)
            self.assertIs(one_set == other_set, same)
            self.assertEqual(first_unlike_word(one_set, other_set), parting_word(one, other))
            self.assertEqual(made_group(one_set), one)
            self.assertIs(within(one_set, other_set), inside(one, other))
            self.assertIs(spots_led(one, other) is not None, inside(one, other))
            self.assertEqual(group_words(meet(one, other)), one_set & other_set)
            self.assertIs(one_set.finite, one.rank() == 0)
            self.assertEqual(how_many_in(one_set), 1 if one.rank() == 0 else None)
            word = random_word(chance, many, 4)
            self.assertIs(word in one_set, belongs(one, word))
            self.assertIs(class_of(one, word) == class_of(one, ""), belongs(one, word))
            self.assertIs(len(way(one, word)) == len(say(word)) + 1 and way(one, word)[-1] == 0, belongs(one, word))
            if belongs(one, word):
                self.assertEqual(member_number(one, word), place_in(one_set, word))
                self.assertEqual(word_in(one_set, place_in(one_set, word)), say(word))
        self.assertTrue(10 < alike < 50)

    def test_lists_texts_and_papers(self):
        chance = chance_of(321)
        for _ in range(60):
            many = chance.randint(1, 4)
            words = random_list(chance, many, 5, 5)
            self.assertEqual(read_words(words_text(many, words)), (many, words))
            self.assertIsNone(wrong_line(words_text(many, words)))
            group = Group(many, read_words(words_text(many, words))[1])
            word = random_word(chance, many, 4)
            found = paper(many, words, word)
            self.assertIs(found is not None, belongs(group, word))
            if found is not None:
                self.assertIs(is_paper(many, words, word, found), True)
            deed = random_deed(chance, many, words)
            if found is not None and deed[0] in ("oppose", "times", "exchange") and is_deed(many, words, deed):
                behind = paper_behind(many, words, deed, found)
                self.assertIs(is_paper(many, changed(many, words, deed), word, behind), True)
                self.assertEqual((said(many, changed(many, words, deed), behind) or [""])[-1], say(word))

    def test_bases_and_least_rows(self):
        chance = chance_of(322)
        for _ in range(60):
            many = chance.randint(1, 3)
            words = random_list(chance, many, 4, 5)
            group = Group(many, words)
            least_words = [word for word in least_row(many, words) if word]
            self.assertIs(is_basis(many, least_words), True)
            self.assertEqual([len(word) for word in least_words], least_lengths(group))
            self.assertIs(is_basis(many, words), "" not in least_row(many, words))
            self.assertEqual(sorted(len(word) for word in basis(group)), least_lengths(group))
            if 1 <= len(words) <= 6:
                lettermap = LetterMap(many, words)
                self.assertIs(is_one_to_one(lettermap), is_basis(many, words))
                self.assertIs(collapse(lettermap) is None, is_basis(many, words))
                self.assertIs(is_onto(lettermap), all(belongs(group, letter) for letter in LETTERS[:many]))
                self.assertIs(is_onto(lettermap), how_many_classes(group) == 1)
                self.assertEqual(group_led(lettermap, Group(len(words), list(LETTERS[:len(words)]))), group)


class MapTest(unittest.TestCase):
    def test_maps_chains_and_cuts(self):
        chance = chance_of(323)
        for _ in range(60):
            many = chance.randint(1, 3)
            letters = list(LETTERS[:many])
            cuts = [random_cut(chance, many) for _ in range(chance.randint(0, 4))]
            lettermap = LetterMap(many, letter_images(many, cuts))
            self.assertTrue(is_onto(lettermap) and is_one_to_one(lettermap))
            found = map_back(lettermap)
            self.assertEqual(composed(lettermap, found).words(), letters)
            moves = chain(many, lettermap.words(), letters)
            row = lettermap.words()
            for move in moves:
                self.assertIs(is_move(many, row, move), True)
                row = moved(many, row, move)
            self.assertEqual(row, letters)
            for word in lettermap.words():
                if len(word) <= 24:
                    self.assertEqual(basis_with(many, word)[0], word)
            rows = random_row(chance, many, 5)
            behind = row_of(many, [image(lettermap, word) for word in rows])
            self.assertEqual([led_back(lettermap, image(lettermap, word)) for word in rows], rows)
            at = rows
            for cut in cuts:
                at = row_moved(many, at, cut)
            self.assertEqual(at, behind)
            if told(rows_led, many, rows, behind) is None:
                self.assertEqual(rows_led(many, rows, behind)[0], "led")
            self.assertIs(is_led(many, rows, behind, ("led", cuts)), self.stays_low(many, rows, cuts))
            self.assertEqual(sum(map(len, least(many, rows)[1])), sum(map(len, least(many, behind)[1])))
            self.assertEqual(len(blocks(many, rows)[1]), len(blocks(many, behind)[1]))

    def stays_low(self, many, row, cuts):
        """Whether no row on the way is greater than the first and the last one."""
        sizes = [sum(map(len, row))]
        for cut in cuts:
            row = row_moved(many, row, cut)
            sizes.append(sum(map(len, row)))
        return max(sizes) <= max(sizes[0], sizes[-1])

    def test_groups_led_by_maps(self):
        chance = chance_of(324)
        for _ in range(40):
            many, into = chance.randint(1, 2), chance.randint(1, 2)
            lettermap = LetterMap(into, [random_word(chance, into, chance.randint(0, 4)) for _ in range(many)])
            group = random_group(chance, many, 2, 3)
            if len(group.picture()) <= 5:
                self.assertEqual(made_group(images(into, lettermap.words(), group_words(group))), group_led(lettermap, group))
            word = random_word(chance, many, 3)
            inner = LetterMap(many, [say(word[::-1].swapcase() + letter + word) for letter in LETTERS[:many]])
            self.assertEqual(group_led(inner, group), led(group, word))
            self.assertEqual(group_led_back(inner, led(group, word)), group)
            if is_one_to_one(lettermap):
                self.assertEqual(group_led_back(lettermap, group_led(lettermap, group)), group)

    def test_words_rows_and_turns(self):
        chance = chance_of(325)
        for _ in range(150):
            many = chance.randint(1, 3)
            one, other = random_word(chance, many, 4), random_word(chance, many, 4)
            if say(one) and say(other):
                same = row_of(many, [one]) == row_of(many, [other])
                self.assertIs(same, first_turn(many, one) == first_turn(many, other))
                self.assertIs(same, leader(many, one, other) is not None)
                row = row_of(many, [one])
                self.assertIs(least_paper(many, row) is not None, least(many, row)[0] == [])
                single = basis_with(many, one) is not None
                self.assertIs(single, len(least(many, row)[1][0]) == 1)
                self.assertIs(single, rows_led(many, row, ["a"])[0] == "led")
                self.assertIs(single, is_led(many, row, ["a"], rows_led(many, row, ["a"]))
                              and rows_led(many, row, ["a"])[0] == "led")


class BookTest(unittest.TestCase):
    def test_books_and_groups(self):
        chance = chance_of(326)
        for _ in range(40):
            many = chance.randint(1, 2)
            words = random_list(chance, many, 3, 4)
            book = ListBook(many, words)
            for _ in range(6):
                deed = random_deed(chance, many, book.standing)
                if is_deed(many, book.standing, deed):
                    same = keeps_group(many, book.standing, deed)
                    self.assertEqual(changed(many, book.standing, deed), book.together([deed], keep=False))
                    book.do(deed)
                    self.assertIs(book.groups()[-2] == book.groups()[-1], same)
                    self.assertIs(parting_since(book, book.many_deeds - 1) is None, same)
            self.assertEqual(book.group, Group(many, book.standing))
            self.assertEqual(read_picture(picture_text(book.group)), book.groups()[-1])
            again = ListBook(many, words)
            self.assertEqual(again.together(book.log()), book.standing)
            self.assertTrue(again == book)
            first = book.groups()[0]
            for spot in range(len(first.picture())):
                goes = spots_led(first, book.group)
                self.assertEqual(spot_since(book, 0, spot), None if goes is None else goes[spot])
            self.assertIs(parting_since(book, 0) is None, first == book.group)
            word = random_word(chance, many, 3)
            self.assertIs(member_since(book, word) is not None, belongs(book.group, word))

    def test_members_by_number(self):
        chance = chance_of(327)
        for _ in range(20):
            group = random_group(chance, 2, 3, 4)
            words = group_words(group)
            if group.rank() > 0:
                found = [member_numbered(group, number) for number in range(12)]
                self.assertEqual(found, [word_in(words, number) for number in range(12)])
                self.assertEqual(sum(how_many_of(words, signs) for signs in range(len(found[-1]))),
                                 sum(len(word) < len(found[-1]) for word in found))


if __name__ == "__main__":
    unittest.main()
