"""The least rules by which numbers go on.

A rule is found by counting modulo a great number, where all its steps show as they are if they are
less; it is then held against the numbers themselves. It cannot have fewer items than the least rule
modulo a number, so that it is the least one if it stands for the numbers.
"""

from signlanes.remainders import inverse_of


def lessened(now, before, factor, gap, modulus):
    """Coefficients less others that are taken so many times and begin so many places later."""
    size = max(len(now), len(before) + gap)
    result = now + [0] * (size - len(now))
    for at, item in enumerate(before):
        result[at + gap] = (result[at + gap] - factor * item) % modulus
    return result


def rule_modulo(values, modulus):
    """The steps of the least rule modulo a number, None where one cannot be divided there.

    `now` has 1 and, taken off, the steps of the least rule for the numbers looked at so far; `before` those
    of the last rule that had fewer items, which is shifted so far that what it missed undoes a miss.
    """
    now, before, items, gap, inverse = [1], [1], 0, 1, 1
    for at in range(len(values)):
        miss = sum([item * values[at - back] for back, item in enumerate(now)]) % modulus
        if miss == 0:
            gap += 1
            continue
        changed = lessened(now, before, miss * inverse, gap, modulus)
        if 2 * items <= at:
            items, before, gap, inverse = at + 1 - items, now, 1, inverse_of(miss, modulus)
            if inverse is None:
                return None
        else:
            gap += 1
        now = changed
    return [-item % modulus for item in now[1:]]


def goes_by(values, steps):
    """Whether numbers go on by steps."""
    for at in range(len(steps), len(values)):
        if values[at] != sum([step * values[at - 1 - back] for back, step in enumerate(steps)]):
            return False
    return True


def least_rule(values):
    """The rule with the fewest items for numbers, of which a rule has at most half as many items."""
    # For numbers of ways in small tables all steps are far less than this modulus, which is prime.
    modulus = (1 << 521) - 1
    while True:
        found = rule_modulo(values, modulus)
        if found is not None:
            steps = [item if 2 * item < modulus else item - modulus for item in found]
            if goes_by(values, steps):
                return (values[:len(steps)], steps)
        modulus += 2
