"""Sets of plain words told by machines."""

from signlanes.checks import MOST_SIGNS, check_many, check_word, is_count, is_spelled, is_whole, is_word_list
from signlanes.errors import InvalidList, InvalidMachine, InvalidNumber, Unlike
from signlanes.links import link, link_end
from signlanes.machines import least_machine, lets_finitely_many, lets_of, live_states, paired_rows
from signlanes.pictures import copied_rows
from signlanes.quiets import quiet_reach, said_machine
from signlanes.signs import reduced, sign_numbers, written

MOST_MACHINE_STATES = 60
MOST_MACHINE_LANES = 300
MOST_LANE_SIGNS = 200
MOST_SETS = 3000
MOST_LISTED_WORDS = 40
MOST_LISTED_SIGNS = 60


class WordSet:
    """What the rows of words that lead from state 0 of a machine to one of its ends say."""

    def __init__(self, many, states, lanes, ends):
        check_machine(many, states, lanes)
        if not is_end_list(states, ends):
            raise InvalidList(ends)
        rows, lets = said_machine(2 * many, read_by_signs(states, lanes), 0, ends, MOST_SETS)
        least, let_ends = least_machine(rows, lets)
        self.letter_count = many
        self.least_rows = least
        self.least_ends = let_ends

    def many(self):
        """The number of letters."""
        return self.letter_count

    def rows(self):
        """For each state of the least machine the state to which each sign leads."""
        return copied_rows(self.least_rows)

    def ends(self):
        """The end states of the least machine, in order."""
        return list(self.least_ends)

    @property
    def empty(self):
        """Whether the set has no word."""
        return self.least_ends == []

    @property
    def finite(self):
        """Whether the set has finitely many words."""
        return lets_finitely_many(self.least_rows, self.least_ends)

    def __eq__(self, other):
        return (isinstance(other, WordSet) and self.letter_count == other.letter_count
                and self.least_rows == other.least_rows and self.least_ends == other.least_ends)

    def __contains__(self, word):
        check_word(self.letter_count, word)
        return state_behind(self.least_rows, word) in self.least_ends

    def __and__(self, other):
        rows, lets = lets_of_both(self, other)
        return set_of(self.letter_count, rows, [let and other_let for let, other_let in lets])

    def __or__(self, other):
        rows, lets = lets_of_both(self, other)
        return set_of(self.letter_count, rows, [let or other_let for let, other_let in lets])

    def __sub__(self, other):
        rows, lets = lets_of_both(self, other)
        return set_of(self.letter_count, rows, [let and not other_let for let, other_let in lets])


def check_machine(many, states, lanes):
    """Refuse what is no number of letters, of states, and no list of lanes."""
    check_many(many)
    if not is_whole(states) or not 1 <= states <= MOST_MACHINE_STATES:
        raise InvalidNumber(states)
    if not isinstance(lanes, list) or len(lanes) > MOST_MACHINE_LANES:
        raise InvalidList(lanes)
    if not all([is_machine_lane(many, states, lane) for lane in lanes]):
        raise InvalidList(lanes)
    if sum([len(lane[1]) for lane in lanes]) > MOST_LANE_SIGNS:
        raise InvalidList(lanes)


def is_machine_lane(many, states, lane):
    """Whether a value is a lane of a machine with so many states."""
    if not isinstance(lane, tuple) or len(lane) != 3:
        return False
    one, word, other = lane
    if not is_count(one) or not is_count(other) or one >= states or other >= states:
        return False
    return is_spelled(many, word, MOST_SIGNS)


def is_end_list(states, ends):
    """Whether a value is a list of unlike states in ascending order."""
    if not isinstance(ends, list) or not all([is_count(end) and end < states for end in ends]):
        return False
    return all([ends[at] < ends[at + 1] for at in range(len(ends) - 1)])


def read_by_signs(states, lanes):
    """A machine with places within the words of its lanes: nodes, lanes of one sign, pairs without a sign."""
    size = states
    steps = []
    pairs = []
    for one, word, other in lanes:
        numbers = sign_numbers(word)
        nodes = [one] + list(range(size, size + max(0, len(numbers) - 1))) + [other]
        size = size + len(nodes) - 2
        if numbers == []:
            pairs.append((one, other))
        for at, number in enumerate(numbers):
            steps.append((nodes[at], number, nodes[at + 1]))
    return (size, steps, pairs)


def state_behind(rows, word):
    """The state to which the plain word that a word says leads."""
    state = 0
    for number in sign_numbers(reduced(word)):
        state = rows[state][number]
    return state


def lets_of_both(one, other):
    """The machine of the pairs of states of two sets, and for each pair whether each of both lets it."""
    if one.letter_count != other.letter_count:
        raise Unlike(other)
    rows, pairs = paired_rows(one.least_rows, other.least_rows)
    lets, other_lets = lets_of(one.least_rows, one.least_ends), lets_of(other.least_rows, other.least_ends)
    return (rows, [(lets[left], other_lets[right]) for left, right in pairs])


def set_of(many, rows, lets):
    """The set of the plain words that a machine lets; it lets no others."""
    least, let_ends = least_machine(rows, lets)
    found = WordSet(many, 1, [], [])
    found.least_rows = least
    found.least_ends = let_ends
    return found


def set_said(many, machine, begin, ends):
    """The set of the plain words that the rows of signs from a node of a machine to its ends say."""
    rows, lets = said_machine(2 * many, machine, begin, ends, None)
    return set_of(many, rows, lets)


def check_set(words):
    """Refuse what is no set of words."""
    if not isinstance(words, WordSet):
        raise InvalidMachine(words)


def check_two_sets(one, other):
    """Refuse what are no two sets of words for as many letters."""
    check_set(one)
    check_set(other)
    if one.letter_count != other.letter_count:
        raise Unlike(other)


def all_words(many):
    """The set of all plain words."""
    check_many(many)
    loops = [(0, sign, 0) for sign in range(2 * many)]
    return set_said(many, (1, loops, []), 0, [0])


def no_words(many):
    """The set without words."""
    return WordSet(many, 1, [], [])


def words_of(many, words):
    """The set of what the words of a list say."""
    check_many(many)
    if not is_word_list(many, words, MOST_LISTED_SIGNS) or len(words) > MOST_LISTED_WORDS:
        raise InvalidList(words)
    # State 1 is the one from which no word is let.
    rows, lets = [[1] * (2 * many), [1] * (2 * many)], [False, False]
    for word in words:
        state = 0
        for number in sign_numbers(reduced(word)):
            if rows[state][number] == 1:
                rows[state][number] = len(rows)
                rows.append([1] * (2 * many))
                lets.append(False)
            state = rows[state][number]
        lets[state] = True
    return set_of(many, rows, lets)


def other_words(words):
    """The set of all plain words that a set has not."""
    check_set(words)
    return all_words(words.letter_count) - words


def quiet_pairs(many, states, lanes):
    """The pairs of states of which some row of words that says the empty word leads from one to the other."""
    check_machine(many, states, lanes)
    reach = quiet_reach(read_by_signs(states, lanes))
    return [(one, other) for one in range(states) for other in range(states) if reach[one] >> other & 1 == 1]


def first_unlike_word(one, other):
    """The first word that just one of two sets has, None if they are equal."""
    check_two_sets(one, other)
    size, rows = len(one.least_rows), one.least_rows + shifted_rows(other.least_rows, len(one.least_rows))
    lets = lets_of(rows, one.least_ends + [end + size for end in other.least_ends])
    # Each entry is a word: the states to which it leads, the entry of what is ahead of its last sign, and this.
    entries, linked, at = [(0, size, None, None)], list(range(len(rows))), 0
    while at < len(entries):
        left, right, _, _ = entries[at]
        if lets[left] != lets[right]:
            return word_of_entry(entries, at)
        # Where states are linked by pairs ahead, what parts them parts one of those pairs by an earlier word.
        if link_end(linked, left) != link_end(linked, right):
            link(linked, left, right)
            entries.extend([(rows[left][sign], rows[right][sign], at, sign) for sign in range(len(rows[0]))])
        at += 1
    return None


def shifted_rows(rows, by):
    """Rows in which all states have greater numbers."""
    return [[target + by for target in row] for row in rows]


def word_of_entry(entries, at):
    """The word of an entry."""
    numbers = []
    while at != 0:
        _, _, at, sign = entries[at]
        numbers.append(sign)
    return written(numbers[::-1])


def within(one, other):
    """Whether all words of a set are in another one."""
    check_two_sets(one, other)
    size, live = len(other.least_rows), live_states(one.least_rows, one.least_ends)
    lets, other_lets = lets_of(one.least_rows, one.least_ends), lets_of(other.least_rows, other.least_ends)
    # A pair of states is one number here; what is left from it can be in the set only if the first one lives.
    seen, waiting = [False] * (len(one.least_rows) * size), [0] if live[0] else []
    while waiting:
        left, right = divmod(waiting.pop(), size)
        if lets[left] and not other_lets[right]:
            return False
        for target, other_target in zip(one.least_rows[left], other.least_rows[right]):
            pair = target * size + other_target
            if live[target] and not seen[pair]:
                seen[pair] = True
                waiting.append(pair)
    return True
