"""Whole numbers near to pi and to cosines, times a power of two, with told bounds of their errors."""


def _near_arctangent(inverse, bits):
    """Near to (1 << bits) * arctan(1 / inverse), for an inverse from 5 on: off by less than bits // 4 + 3."""
    # Quotients rounded down in turn are the same as one rounded down at once: each of the at most bits // 4 + 2
    # terms is off by less than 1, as are all those that are left out.
    square = inverse * inverse
    power = (1 << bits) // inverse
    total = 0
    odd = 1
    sign = 1
    while power > 0:
        total += sign * (power // odd)
        power //= square
        odd += 2
        sign = - sign
    return total


def near_pi(bits):
    """Near to (1 << bits) * pi: off by less than 2."""
    # pi is 16 arctan(1 / 5) - 4 arctan(1 / 239). With these spare bits the error of both is below 1 after the shift.
    spare = 16 + bits.bit_length()
    wide = bits + spare
    return (16 * _near_arctangent(5, wide) - 4 * _near_arctangent(239, wide)) >> spare


def _near_first_root(order, bits):
    """Near to (1 << bits) times the cosine and the sine of the order-th part of a turn."""
    # The series is taken for an eighth of the angle, which is below 1, so that no term enlarges the error of the
    # one before it: each is off by at most 5, there are at most bits + 6, and doubling the angle trebles the error.
    angle = near_pi(bits) // (4 * order)
    cosine = sine = 0
    term = 1 << bits
    step = 0
    while term > 0:
        sign = 1 - (step & 2)
        if step & 1:
            sine += sign * term
        else:
            cosine += sign * term
        step += 1
        term = ((term * angle) >> bits) // step
    for _ in range(3):
        cosine, sine = (cosine * cosine - sine * sine) >> bits, (2 * cosine * sine) >> bits
    return cosine, sine


def near_cosines(order, many, bits):
    """Near to (1 << bits) times the cosines of k / order of a turn, for k from 0 to many - 1: off by less than 2.

    Holds for at least 32 bits, orders up to 360, and many up to the order.
    """
    # Each root adds the error of the first one to that of the root before it: 360 of them stay below
    # (1 << 20) * wide, which is less than 1 after the shift.
    spare = 32 + bits.bit_length()
    wide = bits + spare
    first_cosine, first_sine = _near_first_root(order, wide)
    cosine, sine = 1 << wide, 0
    cosines = []
    for _ in range(many):
        cosines.append(cosine >> spare)
        turned = (cosine * first_cosine - sine * first_sine) >> wide
        sine = (sine * first_cosine + cosine * first_sine) >> wide
        cosine = turned
    return cosines
