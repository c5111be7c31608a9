"""Turns of round words, what leads words to words, and roots."""

from signlanes.checks import check_many, check_word
from signlanes.signs import glued, order_key, reduced, undone
from signlanes.words import split_hair


def hair_and_ring(many, word):
    """The hair and the ring of what a word says."""
    check_many(many)
    check_word(many, word)
    return split_hair(reduced(word))


def first_turn(many, word):
    """The first turn, in the order of words, of the ring of what a word says."""
    check_many(many)
    check_word(many, word)
    _, ring = split_hair(reduced(word))
    return first_of_turns(ring)


def first_of_turns(ring):
    """The first turn, in the order of words, of a round word."""
    # Put into letters whose order is Python's, so that each turn need not be.
    ordered = ring.translate(str.maketrans("aAbBcCdDeEfF", "abcdefghijkl"))
    first = min([ordered[at:] + ordered[:at] for at in range(max(1, len(ring)))])
    return first.translate(str.maketrans("abcdefghijkl", "aAbBcCdDeEfF"))


def period(ring):
    """How many signs of a round word that is not empty are turned until it is itself again."""
    return (ring + ring).find(ring, 1)


def leader(many, one, other):
    """The first word that leads what one word says to what another one says, None without one."""
    check_many(many)
    check_word(many, one)
    check_word(many, other)
    return first_leading(reduced(one), reduced(other))


def first_leading(one, other):
    """The first word that leads a plain word to another one, None without one."""
    hair, ring = split_hair(one)
    other_hair, other_ring = split_hair(other)
    at = (ring + ring).find(other_ring)
    if len(ring) != len(other_ring) or at < 0:
        return None
    if ring == "":
        return ""
    # All leaders differ by powers of the root; those of other powers than these are longer.
    base = ring[:period(ring)]
    middles = [glued(turn, ring[:at]) for turn in (undone(base), "", base)]
    found = [glued(glued(hair, middle), undone(other_hair)) for middle in middles]
    return min(found, key=order_key)


def split_root(word):
    """The base of which a plain word is the greatest power, and the times that it is taken."""
    if word == "":
        return ("", 0)
    hair, ring = split_hair(word)
    size = period(ring)
    return (hair + ring[:size] + undone(hair), len(ring) // size)


def root(many, word):
    """The plain word of which a word says the greatest power, and the times that it is taken."""
    check_many(many)
    check_word(many, word)
    return split_root(reduced(word))


def go_together(many, one, other):
    """Whether the products of two words are the same in either order."""
    return common_root(many, one, other) is not None


def common_root(many, one, other):
    """The word of which two words say powers, and which ones, None if there is none."""
    check_many(many)
    check_word(many, one)
    check_word(many, other)
    base, low = split_root(reduced(one))
    other_base, high = split_root(reduced(other))
    if low == 0:
        base = other_base
    if high == 0:
        other_base = base
    if other_base != base and other_base != undone(base):
        return None
    first = min([base, undone(base)], key=order_key)
    return (first, low if base == first else -low, high if other_base == first else -high)
