"""Letters, which carry any bytes and keep their order."""

from bytetongue.errors import BadLetters
from bytetongue.parts import parted, together
from bytetongue.signs import BYTE_BITS

# At the place of a letter's number: the letter.
LETTERS = (
    45,
    48, 49, 50, 51, 52, 53, 54, 55, 56, 57,
    65, 66, 67, 68, 69, 70, 71, 72, 73, 74, 75, 76, 77, 78, 79, 80, 81, 82, 83, 84, 85, 86, 87, 88, 89, 90,
    95,
    97, 98, 99, 100, 101, 102, 103, 104, 105, 106, 107, 108, 109, 110, 111, 112, 113, 114, 115, 116, 117, 118,
    119, 120, 121, 122,
)
LETTER_BITS = 6

# So many letters carry just so many bytes.
GROUP_LETTERS = 4
GROUP_BYTES = 3


def group_letters(row):
    """The letters of one to three bytes: one more than the bytes are."""
    number = together(row + [0] * (GROUP_BYTES - len(row)), BYTE_BITS)
    return [LETTERS[part] for part in parted(number, LETTER_BITS, GROUP_LETTERS)[:len(row) + 1]]


def lettered(row):
    """The row in letters."""
    letters = []
    for at in range(0, len(row), GROUP_BYTES):
        letters.extend(group_letters(row[at:at + GROUP_BYTES]))
    return letters


def group_bytes(letters):
    """The bytes of one to four letters: one less than the letters are."""
    numbers = [LETTERS.index(letter) for letter in letters]
    number = together(numbers + [0] * (GROUP_LETTERS - len(numbers)), LETTER_BITS)
    return parted(number, BYTE_BITS, GROUP_BYTES)[:len(letters) - 1]


def bytes_in(letters):
    """The bytes of which the letters have all bits; what is left at the end is not looked at."""
    row = []
    for at in range(0, len(letters), GROUP_LETTERS):
        row.extend(group_bytes(letters[at:at + GROUP_LETTERS]))
    return row


def letters_ahead(row):
    """How many letters stand ahead of the first byte that is none; all, where there is no such byte."""
    for at, byte in enumerate(row):
        if byte not in LETTERS:
            return at
    return len(row)


def unlettered(row):
    """The row that is written so in letters."""
    many = letters_ahead(row)
    if many < len(row):
        raise BadLetters(many)
    told = bytes_in(row)
    # Written again, a letter too many is left out and bits at the end are 0.
    if lettered(told) != row:
        raise BadLetters(many)
    return told
