"""Things told by numbers that are linked with one another, in lists that name one for each of them."""


def link_end(linked, number):
    """The last one of the things to which links lead from one; the way there is made shorter."""
    while linked[number] != number:
        linked[number] = linked[linked[number]]
        number = linked[number]
    return number


def link(linked, one, other):
    """Link two things; the links of both, and of all that are linked with them, end at the least number."""
    left, right = link_end(linked, one), link_end(linked, other)
    linked[max(left, right)] = min(left, right)
