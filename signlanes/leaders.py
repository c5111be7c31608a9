"""The first words of the classes by a group, counted by their signs.

They are the first words of the spots, and what goes on from one of these by a sign without a lane
and then in any way.
"""

from signlanes.places import place_behind, powers, put_behind
from signlanes.signs import sign_numbers
from signlanes.trees import first_words


def leader_counts(rows, most):
    """How many leaders have just 0, 1, 2 and so on signs, up to a number."""
    ends, leaving = [0] * (most + 1), [0] * (most + 1)
    for row, word in zip(rows, first_words(rows)):
        if len(word) <= most:
            ends[len(word)] += 1
            leaving[len(word)] += row.count(None)
    found, outside = [], 0
    for signs in range(most + 1):
        found.append(ends[signs] + outside)
        outside = outside * (len(rows[0]) - 1) + leaving[signs]
    return found


def leader_blocks(rows, signs):
    """The leaders of so many signs, in order, as beginnings and how many there are with each."""
    counts, blocks = powers(len(rows[0]) - 1, signs), []
    for row, word in zip(rows, first_words(rows)):
        numbers = sign_numbers(word)
        if len(numbers) == signs:
            blocks.append((numbers, 1))
        elif len(numbers) < signs:
            left = signs - len(numbers) - 1
            blocks.extend([(numbers + [sign], counts[left]) for sign in range(len(row)) if row[sign] is None])
    # No beginning is one of another one, so their order is that of the words.
    return sorted(blocks)


def leader_at(rows, signs, place):
    """The signs of the leader with a place among those of as many signs."""
    for numbers, count in leader_blocks(rows, signs):
        if place < count:
            return put_behind(len(rows[0]), numbers, signs - len(numbers), place)
        place -= count
    return None


def leader_place(rows, numbers):
    """How many leaders of as many signs are ahead of one."""
    place = 0
    for beginning, count in leader_blocks(rows, len(numbers)):
        if beginning == numbers[:len(beginning)]:
            return place + place_behind(len(rows[0]), numbers, len(beginning))
        place += count
    return place
