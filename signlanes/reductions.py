"""Rows of plain words made less, move by move."""

from signlanes.nielsen import joined_words, lessening, level_key
from signlanes.rowmoves import moves_for_product
from signlanes.signs import order_key, undone


def next_lessening(words):
    """The place of a word, that of another one, the side and whether behind, so that the product is less.

    Ways that take signs away come first; of the others those that make a word of the least level
    less, by which no greater one is looked at before the lesser ones are as little as they can be.
    None stands for no way.
    """
    found = []
    for at, word in enumerate(words):
        for other in range(len(words)):
            if at != other and word != "" and words[other] != "":
                for growth, side, behind in lessening(words, at, other):
                    product = joined_words(words, at, other, side, behind)
                    found.append((growth, level_key(word), level_key(product), at, other, side, behind))
    return min(found)[3:] if found else None


def lessened(words, until_empty):
    """The moves that make the words of a row less as long as any can be, and the row to which they lead.

    If `until_empty`, only as long as there is no empty word.
    """
    moves, row = [], list(words)
    way = None if until_empty and "" in row else next_lessening(row)
    while way is not None:
        at, other, side, behind = way
        moves.extend(moves_for_product(at, other, side, behind))
        row[at] = joined_words(row, at, other, side, behind)
        way = None if until_empty and "" in row else next_lessening(row)
    return (moves, row)


def sorting_moves(words):
    """The moves that turn words behind their opposites about and put a row in order, empty words last."""
    moves = [("opposite", at) for at, word in enumerate(words) if order_key(undone(word)) < order_key(word)]
    keys = [(word == "", level_key(word)) for word in words]
    for place in range(len(keys)):
        _, first = min([(keys[at], at) for at in range(place, len(keys))])
        if first != place:
            moves.append(("exchange", place, first))
            keys[place], keys[first] = keys[first], keys[place]
    return moves


def moves_to_least(words):
    """The moves that lead a row of plain words to its least row."""
    moves, row = lessened(words, False)
    return moves + sorting_moves(row)
