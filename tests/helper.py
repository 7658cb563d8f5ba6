"""What several tests need: strange things, and refusals of just one class."""

LAST_SIGN = 1114111
BORDERS = (0, 127, 128, 255, 2047, 2048, 55295, 55296, 56319, 56320, 57343, 57344,
           61183, 61184, 61439, 61440, 65279, 65533, 65535, 65536, 1114111)


class Equal:
    """A thing that says of everything that they are equal."""

    def __eq__(self, other):
        return True

    def __hash__(self):
        return 0


def no_numbers():
    """Things that are no numbers, each list and dict made anew."""
    return [True, False, None, "", "A", "65", "high", b"", b"A", 65.0, 0.5, 65 + 0j, [], [65], [[65]], (), (65,),
            {}, {65: 65}, {65}, range(3), object(), int, len, Equal()]


def not_signs():
    """Things that are no signs, numbers and others."""
    numbers = [-1, -65, -10 ** 60, 55296, 56000, 56319, 56320, 57000, 57343, 61184, 61185, 61300, 61439,
               1114112, 1114113, 2 ** 31, 10 ** 60, 10 ** 5000]
    return numbers + no_numbers()


def is_seen_number(number):
    """The document's words, told otherwise than the program tells them."""
    return number in range(0, 55296) or number in range(57344, 1114112)


def is_sign_number(number):
    return is_seen_number(number) and number // 256 != 239


def near(numbers):
    """The numbers and those next to them, rising."""
    return sorted({number + step for number in numbers for step in (-2, -1, 0, 1, 2)})


def same_thing(one, other):
    """Whether a thing was told as it is: 1 is not True, and 65.0 is not 65."""
    return one is other or (type(one) is type(other) and one == other)


def refusal(case, kind, call, *handed, **named):
    """The error of a call, which is of this class and of none other."""
    with case.assertRaises(kind) as caught:
        call(*handed, **named)
    case.assertIs(type(caught.exception), kind)
    return caught.exception
