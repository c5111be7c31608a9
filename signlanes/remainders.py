"""Numbers by what they leave when they are parted by another one."""


def inverse_of(number, modulus):
    """What a number has to be taken times to leave what 1 does when parted by another one, None without such."""
    one, other, step, next_step = number % modulus, modulus, 1, 0
    while other != 0:
        times = one // other
        one, other = other, one - times * other
        step, next_step = next_step, step - times * next_step
    return step % modulus if one == 1 else None
