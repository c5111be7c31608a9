"""Machines that read rows of signs, and the plain words that these rows say.

A machine is a tuple of the number of its nodes, of a list of lanes of one sign, as tuples of node, sign
and node, and of a list of pairs of nodes of which the first one leads to the second one without a sign.
Sets of nodes are numbers here, with a bit for each node. What stands here runs in operators, so nothing
is changed but lists that a function has made itself.
"""

from signlanes.errors import TooMany
from signlanes.machines import MOST_STATES

MOST_FUTURES = 150
FIRST_LOOK = 2000


def nodes_in(bits):
    """The nodes of a set."""
    found = []
    while bits != 0:
        low = bits & -bits
        found.append(low.bit_length() - 1)
        bits = bits - low
    return found


def lanes_by_source(size, lanes):
    """For each node its lanes, as sign and node to which it leads."""
    found = [[] for _ in range(size)]
    for one, sign, other in lanes:
        found[one].append((sign, other))
    return found


def lanes_back(lanes):
    """The lanes the other way about, with the signs as they are."""
    return [(other, sign, one) for one, sign, other in lanes]


def pairs_around(comings, goings):
    """The pairs of nodes of which a sign leads from the first one to a pair and is undone behind it."""
    return [(one, other) for sign, one in comings for undoing, other in goings if undoing == sign ^ 1]


def quiet_reach(machine):
    """For each node the set of the nodes to which rows of signs that say the empty word lead."""
    size, lanes, fresh = machine
    goings = lanes_by_source(size, lanes)
    comings = lanes_by_source(size, lanes_back(lanes))
    reach = [1 << node for node in range(size)]
    back = [1 << node for node in range(size)]
    waiting = [(node, node) for node in range(size)]
    at = -1
    while at < len(waiting):
        for one, other in fresh:
            if reach[one] >> other & 1 == 0:
                reach[one] = reach[one] | 1 << other
                back[other] = back[other] | 1 << one
                waiting.append((one, other))
        at += 1
        if at < len(waiting):
            one, other = waiting[at]
            longer = [(one, last) for last in nodes_in(reach[other] & ~reach[one])]
            earlier = [(first, other) for first in nodes_in(back[one] & ~back[other])]
            fresh = longer + earlier + pairs_around(comings[one], goings[other])
    return reach


def steps_of(signs, machine, reach):
    """For each sign the nodes from which it leads, with the sets to which it leads."""
    size, lanes, _ = machine
    # One list for all signs, since what runs in an operator may change items of a list of its own alone.
    found = [0 for _ in range(signs * size)]
    for one, sign, other in lanes:
        found[sign * size + one] = found[sign * size + one] | reach[other]
    rows = [found[at * size:(at + 1) * size] for at in range(signs)]
    return [[(node, bits) for node, bits in enumerate(row) if bits != 0] for row in rows]


def stepped(bits, steps):
    """For each sign the set to which it leads from a set."""
    found = []
    for step in steps:
        there = 0
        for node, targets in step:
            if bits >> node & 1 == 1:
                there = there | targets
        found.append(there)
    return found


def futures_of(steps, ends):
    """Sets of nodes from which plain words, the first ones, lead to an end, with the first signs of these."""
    found = [(ends, None)]
    known = {(ends, None): True}
    at = 0
    while at < len(found) and len(found) < MOST_FUTURES:
        bits, first = found[at]
        for sign in range(len(steps)):
            ahead = bits_of([node for node, targets in steps[sign] if targets & bits != 0])
            if ahead != 0 and sign != last_undone(first) and (ahead, sign) not in known:
                known[(ahead, sign)] = True
                found.append((ahead, sign))
        at += 1
    return found


def last_undone(sign):
    """The sign that must not follow a sign in a plain word, None for none."""
    return None if sign is None else sign ^ 1


def look_of(bits, last, futures):
    """Which words, of which futures tell, lead to an end from a set behind a sign."""
    return tuple([bits & future != 0 and (first is None or first != last_undone(last)) for future, first in futures])


def are_surely_many(states, futures):
    """Whether words that lead to an end tell apart more states than a least machine may have."""
    looks = [look_of(bits, last, futures) for bits, last in states]
    return len(set(looks)) > MOST_STATES


def plain_machine(steps, begin, ends, most):
    """The machine that lets the plain words that lead from a set to one that has an end.

    A state is a set and the last sign of the words that lead to it, unless its opposite leads nowhere
    from the set: the opposite must not follow. More sets than `most` are refused; the empty one is
    not counted. If `most` is None there may be any number of them, and far more than there are
    states at last: so where there are many, what is sure to end with too many states is refused.
    """
    moves = {0: [0] * len(steps), begin: stepped(begin, steps)}
    order = [(begin, None)]
    numbers = {(begin, None): 0}
    rows = []
    looked_at = FIRST_LOOK
    while len(rows) < len(order):
        bits, last = order[len(rows)]
        row = []
        for sign in range(len(steps)):
            target = 0 if sign == last_undone(last) else moves[bits][sign]
            if target not in moves:
                moves[target] = stepped(target, steps)
            found = (target, sign if moves[target][sign ^ 1] != 0 else None)
            if found not in numbers:
                numbers[found] = len(order)
                order.append(found)
            row.append(numbers[found])
        rows.append(row)
        if most is not None and len(moves) - 1 > most:
            raise TooMany(most + 1)
        if most is None and len(order) > looked_at:
            looked_at = 2 * looked_at
            if are_surely_many(order, futures_of(steps, ends)):
                raise TooMany(MOST_STATES + 1)
    return (rows, [state[0] & ends != 0 for state in order])


def bits_of(nodes):
    """The set of some nodes, each named once."""
    return sum([1 << node for node in nodes])


def said_machine(signs, machine, begin, ends, most):
    """What lets the plain words that are said by the rows of signs that lead from a node to an end."""
    reach = quiet_reach(machine)
    return plain_machine(steps_of(signs, machine, reach), reach[begin], bits_of(ends), most)
