"""Words that stand in bases of all words, and the letters of a row that hang together."""

from signlanes.checks import check_many, check_word
from signlanes.cuts import cut_back, sides_of_cut
from signlanes.flows import tie_table
from signlanes.imaging import exchanged
from signlanes.leastrows import least_behind, size_of
from signlanes.links import link, link_end
from signlanes.roundrows import check_round_row, ring_turned
from signlanes.signs import SIGNS, glued, reduced, sign_numbers, undone
from signlanes.turns import first_leading


def basis_with(many, word):
    """A list of plain words that make all words, the first one what a word says; None if there is none."""
    check_many(many)
    check_word(many, word)
    said = reduced(word)
    if said == "":
        return None
    cuts, row = least_behind(many, [ring_turned(said)])
    if size_of(row) > 1:
        return None
    words = letters_behind(many, [cut_back(cut) for cut in cuts[::-1]])
    sign = sign_numbers(row[0])[0]
    first = words[sign // 2] if sign & 1 == 0 else undone(words[sign // 2])
    lead = first_leading(first, said)
    others = words[:sign // 2] + words[sign // 2 + 1:]
    return [said] + [glued(glued(undone(lead), other), lead) for other in others]


def letters_behind(many, cuts):
    """The plain words into which the letters are turned, of however many signs."""
    words = [SIGNS[2 * letter] for letter in range(many)]
    for cut in cuts:
        sides = sides_of_cut(many, cut)
        words = [exchanged(sides, word) for word in words]
    return words


def blocks(many, row):
    """Cuts that lead to a least row, and the strings of the letters that hang together by its ties."""
    check_round_row(many, row)
    cuts, found = least_behind(many, row)
    linked, table = list(range(many)), tie_table(many, found)
    for one, numbers in enumerate(table):
        for other, times in enumerate(numbers):
            if times > 0:
                link(linked, one // 2, other // 2)
    ends = [link_end(linked, letter) for letter in range(many)]
    parts = ["".join([SIGNS[2 * letter] for letter in range(many) if ends[letter] == end]) for end in range(many)]
    return (cuts, [part for part in parts if part != ""])
