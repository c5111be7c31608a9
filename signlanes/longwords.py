"""Plain words of very many signs, and how words are led back by a map whose words are a basis."""

from signlanes.lifts import Lift
from signlanes.signs import undone, written


def joined_words(one, other):
    """The product of two plain words, of which very many signs may fall away where they meet."""
    low, high = 0, min(len(one), len(other))
    ahead = undone(one[len(one) - high:])
    # The signs that fall away are as many as the opposite of the first word and the second one begin alike with.
    while low < high:
        middle = (low + high + 1) // 2
        if ahead[low:middle] == other[low:middle]:
            low = middle
        else:
            high = middle - 1
    return one[:len(one) - low] + other[low:]


def word_of_paper(size, paper):
    """What a paper over so many words says if these are exchanged for letters."""
    known = [written([2 * letter]) for letter in range(size)]
    for step in paper:
        word = ""
        for number, side in step:
            word = joined_words(word, known[number] if side == 1 else undone(known[number]))
        known.append(word)
    return known[-1] if paper else ""


def words_back(many, words, sought):
    """The plain words by which the plain words of a list are said if their letters are exchanged for a basis."""
    lift = Lift(many, words)
    return [word_of_paper(len(words), lift.paper_of(word)) for word in sought]
