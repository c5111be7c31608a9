"""Ties of rows of round words as tables, and how much goes from a sign to its opposite along them.

A table has a row for each sign, with the number of ties to each sign. All ties of a sign together are as
many as it and its opposite stand in the row.
"""

from signlanes.signs import sign_numbers


def tie_table(many, row):
    """The table of the ties of a row."""
    table = [[0] * (2 * many) for _ in range(2 * many)]
    for word in row:
        numbers = sign_numbers(word)
        for at, number in enumerate(numbers):
            # The sign ahead of the first one is the last one.
            one, other = numbers[at - 1], number ^ 1
            table[one][other] += 1
            table[other][one] += 1
    return table


def way_along(left, source, sink):
    """The signs of a shortest way along what is left from one to another, or all that are reached if there is none."""
    found_from, order, at = {source: None}, [source], 0
    while at < len(order) and sink not in found_from:
        for target, number in enumerate(left[order[at]]):
            if number > 0 and target not in found_from:
                found_from[target] = order[at]
                order.append(target)
        at += 1
    if sink not in found_from:
        return (False, order)
    way = [sink]
    while way[-1] != source:
        way.append(found_from[way[-1]])
    return (True, way[::-1])


def greatest_flow(table, source):
    """How much goes from a sign to its opposite at most, what is left then, and what is reached along that."""
    left, total = [list(row) for row in table], 0
    goes, signs = way_along(left, source, source ^ 1)
    while goes:
        number = min([left[signs[at]][signs[at + 1]] for at in range(len(signs) - 1)])
        send_along(left, signs, number)
        total += number
        goes, signs = way_along(left, source, source ^ 1)
    return (total, left, signs)


def send_along(left, signs, number):
    """Take so much from what is left along a way, and put it to what is left the other way about."""
    for at in range(len(signs) - 1):
        one, other = signs[at], signs[at + 1]
        left[one][other] -= number
        left[other][one] += number


def single_ways(table, left, source):
    """The ways, by one each, of which a flow from a sign to its opposite consists."""
    flow = [[max(0, ties - rest) for ties, rest in zip(row, left_row)] for row, left_row in zip(table, left)]
    size, ways = sum(flow[source]) - sum([row[source] for row in flow]), []
    while len(ways) < size:
        way = [source]
        while way[-1] != source ^ 1:
            target = next_sign(flow[way[-1]])
            flow[way[-1]][target] -= 1
            # What comes back to a sign of the way has gone round in vain.
            way = way[:way.index(target)] if target in way else way
            way.append(target)
        ways.append(way)
    return ways


def next_sign(row):
    """The first sign to which something goes."""
    return [number > 0 for number in row].index(True)
