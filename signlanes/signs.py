"""Signs and plain words, without checks of what is handed in."""

SIGNS = "aAbBcCdDeEfF"


def sign_numbers(word):
    """The numbers of the signs of a word; a sign and its opposite differ in the last bit."""
    return [SIGNS.index(sign) for sign in word]


def written(numbers):
    """The word whose signs have these numbers."""
    return "".join([SIGNS[number] for number in numbers])


def reduced(word):
    """The plain word that a word says."""
    kept = []
    for sign in word:
        if kept and kept[-1] == sign.swapcase():
            kept.pop()
        else:
            kept.append(sign)
    return "".join(kept)


def undone(word):
    """The opposite of a plain word."""
    return word[::-1].swapcase()


def glued(one, other):
    """The product of two plain words, which can only lose signs where they meet."""
    most = min(len(one), len(other))
    gone = 0
    while gone < most and one[len(one) - 1 - gone] == other[gone].swapcase():
        gone += 1
    return one[:len(one) - gone] + other[gone:]


def order_key(word):
    """What stands for a word in Python's order, so that this is the order of words."""
    return (len(word), word.translate(str.maketrans("aAbBcCdDeEfF", "abcdefghijkl")))
