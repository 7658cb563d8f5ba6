"""Numbers in parts of so many bits each, the highest first."""

from bytetongue.errors import TooGreat


def check_room(number, bits):
    if number < 0 or number.bit_length() > bits:
        raise TooGreat("the number has no room in its bits")


def parted(number, bits, many):
    """The number as so many parts of so many bits each."""
    check_room(number, bits * many)
    rising = []
    for step in range(many):
        higher = number >> bits
        rising.append(number - (higher << bits))
        number = higher
    return list(reversed(rising))


def together(parts, bits):
    """The number of these parts."""
    number = 0
    for part in parts:
        check_room(part, bits)
        number = (number << bits) + part
    return number
