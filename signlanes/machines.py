"""Machines with one lane for each sign from each state, and the least of them.

A machine is told by its rows, for each state the state to which each sign leads, and by a list that
says of each state whether a word that ends there is let. It begins in state 0. What stands here runs
in operators, so nothing is changed but lists that a function has made itself.
"""

from signlanes.errors import TooMany

MOST_STATES = 600


def sources_of(rows):
    """For each state the states from which signs lead to it, with these signs."""
    found = [[] for _ in rows]
    for state, row in enumerate(rows):
        for sign, target in enumerate(row):
            found[target].append((state, sign))
    return found


def states_into(states, sources, signs):
    """For each sign the states from which it leads to one of some states."""
    found = [[] for _ in range(signs)]
    for state in states:
        for source, sign in sources[state]:
            found[sign].append(source)
    return found


def by_kind(states, kinds):
    """The states of each kind, as tuples of a kind and a list."""
    found = {}
    for state in states:
        found.setdefault(kinds[state], []).append(state)
    return list(found.items())


def states_that(lets, wanted):
    """The states where words are let that end there, or where they are not."""
    return [state for state, let in enumerate(lets) if let == wanted]


def lets_of(rows, ends):
    """For each state whether words are let that end there."""
    found = [False] * len(rows)
    for end in ends:
        found[end] = True
    return found


def kinds_of_states(rows, lets, most):
    """Numbers for the states, equal for those from which the same words are let; None if more are needed.

    States are parted by whether words are let that end there, and then, as long as a sign leads from
    some states of a part to a part and from others not, these part. Of two new parts only the
    smaller one has to be looked at, unless the whole one waited.
    """
    sources = sources_of(rows)
    kinds = [1 if let else 0 for let in lets]
    parts = [states_that(lets, False), states_that(lets, True)]
    spare = parts.count([])
    waits = [False, True]
    waiting = [1]
    while waiting and len(parts) - spare <= most:
        at = waiting.pop()
        waits[at] = False
        entering = states_into(parts[at], sources, len(rows[0]))
        for states in entering:
            touched = by_kind(states, kinds)
            for kind, moved in touched:
                if len(moved) < len(parts[kind]):
                    for state in moved:
                        kinds[state] = len(parts)
                    kept = [other for other in parts[kind] if kinds[other] == kind]
                    smaller = len(parts) if waits[kind] or len(moved) <= len(kept) else kind
                    parts[kind] = kept
                    parts.append(moved)
                    waits.append(False)
                    waits[smaller] = True
                    waiting.append(smaller)
    return kinds if len(parts) - spare <= most else None


def least_machine(rows, lets):
    """The rows and the end states of the least machine that lets the same; all states must be reached."""
    found = least_or_none(rows, lets)
    if found is None:
        raise TooMany(MOST_STATES + 1)
    return found


def least_or_none(rows, lets):
    """The same, None if there are too many states."""
    kinds = kinds_of_states(rows, lets, MOST_STATES)
    if kinds is None:
        return None
    samples = {kind: at for at, kind in enumerate(kinds)}
    order = [kinds[0]]
    numbers = {kinds[0]: 0}
    least = []
    while len(least) < len(order):
        row = []
        for target in rows[samples[order[len(least)]]]:
            if kinds[target] not in numbers:
                numbers[kinds[target]] = len(order)
                order.append(kinds[target])
            row.append(numbers[kinds[target]])
        least.append(row)
    return (least, [number for number, first in enumerate(order) if lets[samples[first]]])


def paired_rows(one, other):
    """The rows of the pairs of states that are reached in two machines at once, and these pairs."""
    order = [(0, 0)]
    numbers = {(0, 0): 0}
    rows = []
    while len(rows) < len(order):
        left, right = order[len(rows)]
        row = []
        for pair in zip(one[left], other[right]):
            if pair not in numbers:
                numbers[pair] = len(order)
                order.append(pair)
            row.append(numbers[pair])
        rows.append(row)
    return (rows, order)


def live_states(rows, ends):
    """For each state whether a word that is let goes on from it."""
    sources = sources_of(rows)
    live = [False] * len(rows)
    waiting = list(ends)
    while waiting:
        state = waiting.pop()
        if not live[state]:
            live[state] = True
            waiting.extend([source for source, _ in sources[state]])
    return live


def lets_finitely_many(rows, ends):
    """Whether a machine all of whose states are reached lets finitely many words."""
    live = live_states(rows, ends)
    targets = [[target for target in row if live[target]] for row in rows]
    # States from which no lane leads on are taken away, as long as there are such; rounds remain.
    left = [len(found) for found in targets]
    sources = sources_of(rows)
    waiting = [state for state in range(len(rows)) if live[state] and left[state] == 0]
    gone = 0
    while waiting:
        gone += 1
        taken = waiting.pop()
        for source, _ in sources[taken]:
            left[source] = left[source] - 1
            if left[source] == 0:
                waiting.append(source)
    return gone == live.count(True)
