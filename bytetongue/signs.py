"""Signs, bytes, and the lists of them."""

LAST_SIGN = 1114111
FIRST_HEAD = 55296
FIRST_TAIL = 56320
LAST_TAIL = 57343
FIRST_SEEN = 61184
LAST_SEEN = 61439
LAST_BYTE = 255
BYTE_BITS = 8


def is_number(thing):
    """Whether it is a whole number; Python counts True and False among them, the program does not."""
    return isinstance(thing, int) and not isinstance(thing, bool)


def is_byte(thing):
    return is_number(thing) and 0 <= thing <= LAST_BYTE


def is_head(number):
    return FIRST_HEAD <= number < FIRST_TAIL


def is_tail(number):
    return FIRST_TAIL <= number <= LAST_TAIL


def is_seen_byte(thing):
    return is_number(thing) and FIRST_SEEN <= thing <= LAST_SEEN


def is_sign(thing):
    if not is_number(thing) or not 0 <= thing <= LAST_SIGN:
        return False
    return not (is_head(thing) or is_tail(thing) or is_seen_byte(thing))


def is_row(thing):
    return isinstance(thing, list) and all([is_byte(each) for each in thing])


def is_text(thing):
    return isinstance(thing, list) and all([is_sign(each) for each in thing])


def is_seen(thing):
    """Whether it is a seen text."""
    return isinstance(thing, list) and all([is_sign(each) or is_seen_byte(each) for each in thing])
