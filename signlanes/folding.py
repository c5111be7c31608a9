"""Rounds of lists of words, and the folds that lead from them to pictures."""

from signlanes.checks import check_many, check_short_list
from signlanes.errors import InvalidFold, InvalidSketch
from signlanes.sheets import Sheet, is_fold, is_sketch, is_spot_pair, put_together, sketch_of

MOST_SKETCH_SPOTS = 2500


def rounds(many, words):
    """The sketch of the rounds of a list of words."""
    check_many(many)
    check_short_list(many, words)
    return sketch_of(words)


def folded(sketch, fold):
    """The sketch that results from a fold of a sketch."""
    if not is_sketch(sketch, MOST_SKETCH_SPOTS):
        raise InvalidSketch(sketch)
    if not is_fold(sketch, fold):
        raise InvalidFold(fold)
    return put_together(sketch, fold)


def folds(many, words):
    """A list of folds that leads from the rounds of a list to a sketch that has none."""
    sheet, found = Sheet(rounds(many, words)), []
    waiting = sheet.all_forked()
    while waiting:
        spot, sign = waiting.pop()
        both = sorted(list(sheet.targets[spot][sign]))[:2]
        if len(both) == 2:
            kept, gone = both
            found.append((sheet.left.index(kept), sheet.left.index(gone)))
            sheet.fold(kept, gone)
            waiting.append((spot, sign))
            waiting.extend(sheet.forked(kept))
    return found


def is_folds(many, words, value):
    """Whether a value is a list of folds that leads from the rounds to a sketch that has none."""
    sheet = Sheet(rounds(many, words))
    if not isinstance(value, list):
        return False
    for fold in value:
        if not is_spot_pair(fold, len(sheet.left)):
            return False
        kept, gone = sheet.left[fold[0]], sheet.left[fold[1]]
        if not sheet.can_fold(kept, gone):
            return False
        sheet.fold(kept, gone)
    return sheet.all_forked() == []
