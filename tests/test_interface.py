"""The names, arguments and methods of the interface stand in the modules that it names."""

import importlib
import inspect
import unittest

FUNCTIONS = """
words: is_word(many, value); is_plain(many, value); plain(many, word); product(many, words); opposite(many, word);
 power(many, word, times); ahead(many, one, other); how_many_words(many, signs); word_number(many, word);
 word_numbered(many, number)
turns: hair_and_ring(many, word); first_turn(many, word); leader(many, one, other); root(many, word);
 go_together(many, one, other); common_root(many, one, other)
groups: is_picture(many, value); group_of(many, picture); way(group, word); belongs(group, word);
 parting_word(one, other)
folding: rounds(many, words); folded(sketch, fold); folds(many, words); is_folds(many, words, value)
papers: said(many, words, paper); paper(many, words, word); is_paper(many, words, word, value)
bases: first_word(group, spot); basis(group); is_row(size, value); row_word(many, words, row); basis_row(group, word);
 is_basis(many, words); least_lengths(group); rows_between(many, one, other)
freedlists: freed(many, words); is_freed(many, words, value); is_spare(many, words, number);
 without_spare(many, words)
members: member_number(group, word); member_numbered(group, number); members_from(group, low, high);
 next_member(group, word)
classes: class_of(group, word); first_of_class(group, word); how_many_classes(group); how_many_leaders(group, signs);
 leader_numbered(group, number); leader_number(group, word)
membercounts: how_many_members(group, signs); members_rule(group)
filling: filled(group, words); filled_basis(group, words)
groupcounts: how_many_groups(many, index); group_numbered(many, index, number); group_number(group);
 how_many_kinds(many, index); core_index(group)
above: fringe(group); is_greatest(group); double_classes(one, other)
meets: meet(one, other); joined(one, other); inside(one, other); first_outside(one, other); index_in(one, other);
 leaders_in(one, other); inner_words(one, other); led(group, word); led_meets(one, other);
 first_of_double(one, word, other); through(group, other)
classmeets: how_many_in_class(group, word, signs); meet_word(one, left, other, right); word_of_all(classes);
 in_double(one, word, other, sought)
leading: core(group); words_leading(one, other); normalizer(group); is_normal(group); tower(group);
 greatest_around(group)
powers: least_power(group, word); power_line(group, left, word, right); line_meet(one, other)
within: leader_within(group, one, other); leader_of_all(many, pairs)
wordsets: all_words(many); no_words(many); words_of(many, words); other_words(words); quiet_pairs(many, states, lanes);
 first_unlike_word(one, other); within(one, other)
setproducts: products(one, other); opposites(words); all_products(words); group_words(group); made_group(words);
 is_group(words); double_class(one, word, other); led_into(group, word); images(many, words, given)
setnumbers: how_many_in(words); how_many_of(words, signs); place_in(words, word); word_in(words, number)
lettermaps: image(lettermap, word); composed(first, second); counts(lettermap); is_onto(lettermap);
 is_one_to_one(lettermap); led_back(lettermap, word); map_back(lettermap); group_led(lettermap, group);
 group_led_back(lettermap, group); leader_between(one, other)
moves: is_move(many, words, value); moved(many, words, move)
chains: level(many, word); least_row(many, words); chain(many, one, other); is_chain(many, one, other, value);
 collapse(lettermap)
roundrows: is_round_row(many, value); row_of(many, words); is_cut(many, value); row_moved(many, row, cut);
 undoing(many, cut); letter_images(many, cuts)
leastrows: ties(many, row); change(many, row, cut); least(many, row); least_paper(many, row);
 is_least_paper(many, row, value)
ledrows: level_rows(many, row); rows_led(many, one, other); is_led(many, one, other, value)
blocks: basis_with(many, word); blocks(many, row)
grouptexts: words_text(many, words); picture_text(group); read_words(text); read_picture(text); wrong_line(text)
listdeeds: is_deed(many, words, value); changed(many, words, deed); keeps_group(many, words, deed);
 paper_behind(many, words, deed, paper); spots_led(one, other)
listbook: member_since(book, word); parting_since(book, since); spot_since(book, since, spot)
"""
CLASSES = {("groups", "Group"): ("many, words", ["many", "rank", "picture", "__eq__"], []),
           ("lettermaps", "LetterMap"): ("into, words", ["many", "into", "words", "__eq__"], []),
           ("listbook", "ListBook"): ("many, words", ["do", "undo", "redo", "together", "log", "groups", "copy",
                                                      "__eq__"], ["standing", "group", "many_deeds"]),
           ("wordsets", "WordSet"): ("many, states, lanes, ends",
                                     ["many", "rows", "ends", "__and__", "__or__", "__sub__", "__contains__", "__eq__"],
                                     ["empty", "finite"])}


class InterfaceTest(unittest.TestCase):
    def test_functions(self):
        for line in FUNCTIONS.replace("\n ", " ").strip().splitlines():
            module, calls = line.split(": ")
            found = importlib.import_module("signlanes." + module)
            for call in calls.split("; "):
                name, args = call.rstrip(")").split("(")
                function = getattr(found, name)
                self.assertTrue(inspect.isfunction(function), call)
                self.assertEqual(function.__module__, found.__name__)
                self.assertEqual(", ".join(inspect.signature(function).parameters), args)

    def test_classes(self):
        for (module, name), (args, methods, properties) in CLASSES.items():
            kind = getattr(importlib.import_module("signlanes." + module), name)
            self.assertEqual(kind.__module__, "signlanes." + module)
            self.assertEqual(", ".join(inspect.signature(kind).parameters), args)
            for method in methods:
                self.assertTrue(inspect.isfunction(vars(kind)[method]), method)
            for read in properties:
                self.assertIsInstance(vars(kind)[read], property)


if __name__ == "__main__":
    unittest.main()
