"""The places of plain words among all that begin alike, as numbers of signs in their order."""


def choice_of(last, number):
    """The place of a sign among those that may stand behind another one: all but its opposite."""
    return number if number < last ^ 1 else number - 1


def sign_of(last, choice):
    """The sign with a place among those that may stand behind another one."""
    return choice if choice < last ^ 1 else choice + 1


def place_behind(size, numbers, start):
    """The place of the signs from a number on, of so many there are, among all that may stand there."""
    place = 0
    for at in range(start, len(numbers)):
        place = place * (size - 1) + choice_of(numbers[at - 1], numbers[at])
    return place


def put_behind(size, numbers, signs, place):
    """The signs followed by as many as told that have a place among all that may stand there."""
    choices = []
    for _ in range(signs):
        place, choice = divmod(place, size - 1)
        choices.append(choice)
    result = list(numbers)
    for choice in reversed(choices):
        result.append(sign_of(result[-1], choice))
    return result


def powers(base, most):
    """The powers of a number from 0 to a number of times."""
    found = [1]
    for _ in range(most):
        found.append(found[-1] * base)
    return found
