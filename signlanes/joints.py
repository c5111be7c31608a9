"""Several pictures read at once, and how the spots of one go to those of another one."""

from signlanes.pictures import numbered_rows
from signlanes.trees import first_words, free_lanes
from signlanes.trimming import lanes_of, trimmed_picture


def led_tuple(tables, spots, sign):
    """The spots to which a sign leads from a spot of each table, None unless it does in all of them."""
    targets = [table[spot][sign] for table, spot in zip(tables, spots)]
    return None if None in targets else tuple(targets)


def joint_table(tables, start):
    """The tuples of a spot of each table that are reached from one, as they are found, and their lanes."""
    numbers, order, rows = {start: 0}, [start], []
    while len(rows) < len(order):
        spots, row = order[len(rows)], []
        for sign in range(len(tables[0][0])):
            target = led_tuple(tables, spots, sign)
            if target is not None and target not in numbers:
                numbers[target] = len(order)
                order.append(target)
            row.append(None if target is None else numbers[target])
        rows.append(row)
    return (order, rows)


def first_joint_word(tables, goals):
    """The first word that leads from all starts to spots, one of each table, None without one."""
    order, rows = joint_table(tables, tuple([0] * len(tables)))
    if goals not in order:
        return None
    return first_words(rows)[order.index(goals)]


def meet_rows(one, other):
    """The picture of the group of the words that two groups with such pictures have in common."""
    _, rows = joint_table([one, other], (0, 0))
    return trimmed_picture(rows, 0)


def spots_gone_to(one, other):
    """The spots of a picture to which those of another one go, None if that one reads other words, too."""
    goes = [0] + [None] * (len(one) - 1)
    for spot, row in enumerate(one):
        # A spot is found from one with a lesser number, so it is known where this one goes.
        for sign, target in lanes_of(row):
            there = other[goes[spot]][sign]
            if there is None or goes[target] not in (None, there):
                return None
            goes[target] = there
    return goes


def image_rows(one, other, goes):
    """The picture of the spots and lanes of one picture to which those of another one go."""
    table = [[None] * len(other[0]) for _ in other]
    for spot, row in enumerate(one):
        for sign, target in lanes_of(row):
            table[goes[spot]][sign] = goes[target]
    return numbered_rows(table, 0)


def free_signs(rows):
    """For each free lane, either way, the number of its sign among those of the basis words."""
    numbers = {}
    for number, (spot, sign, target) in enumerate(free_lanes(rows)):
        numbers[(spot, sign)] = 2 * number
        numbers[(target, sign ^ 1)] = 2 * number + 1
    return numbers


def parts_without(rows, goes, signs):
    """For each spot the first spot that is joined with it by lanes that go to none of some lanes."""
    parts = [None] * len(rows)
    for first in range(len(rows)):
        waiting = [first] if parts[first] is None else []
        while waiting:
            spot = waiting.pop()
            parts[spot] = first
            for sign, target in lanes_of(rows[spot]):
                if parts[target] is None and (goes[spot], sign) not in signs:
                    waiting.append(target)
    return parts


def inner_rows(one, other, goes):
    """The picture of a group inside another one, as words of the basis words of this one."""
    signs = free_signs(other)
    parts = parts_without(one, goes, signs)
    table = [[None] * len(signs) for _ in one]
    for spot, row in enumerate(one):
        for sign, target in lanes_of(row):
            if (goes[spot], sign) in signs:
                table[parts[spot]][signs[(goes[spot], sign)]] = parts[target]
    return numbered_rows(table, 0)
