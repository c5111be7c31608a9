"""Slow answers about sets of words told by machines, for the tests of these."""

from tests.helpers import SIGNS, plain_words, random_word, say


def slow_nodes(states, lanes):
    """The lanes of one sign, or of none (None), with places of their own within the words."""
    steps, count = [], states
    for one, word, other in lanes:
        ends = [one] + list(range(count, count + max(0, len(word) - 1))) + [other]
        count += len(ends) - 2
        steps += [(ends[at], sign, ends[at + 1]) for at, sign in enumerate(word)] or [(one, None, other)]
    return count, steps


def slow_quiet(count, steps):
    """All pairs of nodes that are joined by signs that say the empty word, by trying again and again."""
    pairs = {(node, node) for node in range(count)} | {(one, other) for one, sign, other in steps if sign is None}
    while True:
        found = {(one, last) for one, other in pairs for start, last in pairs if start == other}
        found |= {(one, last) for one, sign, other in steps if sign for start, undoing, last in steps
                  if undoing == sign.swapcase() and (other, start) in pairs}
        if found <= pairs:
            return pairs
        pairs |= found


class SlowSet:
    """A set told by a machine, word by word."""

    def __init__(self, states, lanes, ends):
        self.count, self.steps = slow_nodes(states, lanes)
        self.pairs = slow_quiet(self.count, self.steps)
        self.ends = set(ends)

    def reach(self, nodes):
        """The nodes that are reached from some without saying anything."""
        return frozenset(other for one, other in self.pairs if one in nodes)

    def led(self, word):
        """The nodes to which a plain word leads."""
        nodes = self.reach({0})
        for sign in word:
            nodes = self.reach({other for one, step, other in self.steps if step == sign and one in nodes})
        return nodes

    def has(self, word):
        """Whether the set has what a word says."""
        return bool(self.led(say(word)) & self.ends)

    def unlike_sets(self, many):
        """How many unlike sets that are not empty all plain words lead to."""
        seen, fresh = set(), {(self.led(""), "")}
        while fresh:
            seen |= fresh
            fresh = {(self.reach({other for one, step, other in self.steps if step == sign and one in nodes}), sign)
                     for nodes, last in fresh for sign in SIGNS[:2 * many] if sign != last.swapcase()} - seen
        return len({nodes for nodes, _ in seen if nodes})


def random_lanes(chance, many, states, size, most):
    """Lanes of a machine, some of empty words and of words that are not plain."""
    return [(chance.randrange(states), random_word(chance, many, chance.randint(0, most)), chance.randrange(states))
            for _ in range(size)]


def lanes_said(chance, lanes, ends, most):
    """What some rows of lanes that are let say."""
    at, said = 0, ""
    found = [""] if 0 in ends else []
    for _ in range(most):
        going = [lane for lane in lanes if lane[0] == at]
        if not going:
            break
        _, word, at = chance.choice(going)
        said = say(said + word)
        if at in ends:
            found.append(said)
    return found


def words_in(words, most):
    """The words of a set with at most so many signs, in order."""
    return [word for word in plain_words(words.many(), most) if word in words]


def check_least(test, words):
    """Check that the rows of a set are those of a least machine with its states in order."""
    rows, ends = words.rows(), words.ends()
    test.assertTrue(all(len(row) == 2 * words.many() for row in rows))
    test.assertEqual(sorted(set(ends)), ends)
    order = [0]
    for state in order:
        for end in rows[state]:
            if end not in order:
                order.append(end)
    test.assertEqual(order, list(range(len(rows))))
    kinds = [state in ends for state in range(len(rows))]
    while True:
        looks = [(kinds[state], tuple(kinds[end] for end in row)) for state, row in enumerate(rows)]
        names = sorted(set(looks), key=str)
        if len(names) == len(set(kinds)):
            break
        kinds = [names.index(look) for look in looks]
    test.assertEqual(len(set(kinds)), len(rows))
    # Words that are not plain are not let.
    for word in ("aA", "Aa", "aaA", "bB")[:2 if words.many() == 1 else 4]:
        state = 0
        for sign in word:
            state = rows[state][SIGNS.index(sign)]
        test.assertNotIn(state, ends)
