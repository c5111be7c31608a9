"""Cuts and renamings: maps of letters that can be undone, one by one."""

from signlanes.checks import is_spelled
from signlanes.signs import SIGNS

MOST_CUT_SIGNS = 12


def is_cut_or_renaming(many, value):
    """Whether a value is a cut or a renaming."""
    return is_renaming(many, value) if isinstance(value, str) else is_side_cut(many, value)


def is_renaming(many, value):
    """Whether a value is a string of signs, one for each letter, of unlike letters."""
    return is_spelled(many, value, many) and len(set(value.lower())) == many


def is_side_cut(many, value):
    """Whether a value is a tuple of a sign and of a side that has it and has not its opposite."""
    if not isinstance(value, tuple) or len(value) != 2:
        return False
    sign, side = value
    if not is_spelled(many, sign, 1) or not is_spelled(many, side, MOST_CUT_SIGNS):
        return False
    if side != "".join([known for known in SIGNS if known in side]):
        return False
    # The empty string is in each side, and so is its opposite.
    return sign in side and sign.swapcase() not in side


def sides_of_cut(many, cut):
    """For each sign what a cut or a renaming turns it into."""
    if isinstance(cut, str):
        return [turned for letter_sign in cut for turned in (letter_sign, letter_sign.swapcase())]
    sign, side = cut
    found = []
    for known in SIGNS[:2 * many]:
        if known in (sign, sign.swapcase()):
            found.append(known)
        else:
            ahead = sign.swapcase() if known.swapcase() in side else ""
            found.append(ahead + known + (sign if known in side else ""))
    return found


def cut_back(cut):
    """The cut or the renaming that undoes one."""
    if not isinstance(cut, str):
        sign, side = cut
        return (sign.swapcase(), side.replace(sign, sign.swapcase()))
    letters = sorted([(turned.lower(), at, turned.isupper()) for at, turned in enumerate(cut)])
    return "".join([SIGNS[2 * at + 1] if opposite else SIGNS[2 * at] for _, at, opposite in letters])


def single_renamings(many):
    """Renamings of which all others are made: one letter led to its opposite, and neighbours exchanged."""
    letters = [SIGNS[2 * letter] for letter in range(many)]
    found = ["A" + "".join(letters[1:])]
    for at in range(many - 1):
        found.append("".join(letters[:at] + [letters[at + 1], letters[at]] + letters[at + 2:]))
    return found
