"""Texts in pairs with the mark ahead, which tells the order."""

from bytetongue.orders import begins
from bytetongue.pairs import PairTongue
from bytetongue.writing import write

MARK = 65279
ORDERS = ("high", "low")


def mark_row(tongue):
    """The mark's row in a pair tongue."""
    return tongue.spell(MARK)[0]


def marked(text, order="high"):
    """The text's row in the pair tongue of the order, with the mark's row ahead."""
    tongue = PairTongue(order)
    # The mark is no part of the text, so that a refusal's place counts from the text's own first sign.
    return mark_row(tongue) + write(tongue, text)


def unmarked(row):
    """The order whose mark the row begins with, and the rest behind it; None and the row where there is no mark."""
    for order in ORDERS:
        mark = mark_row(PairTongue(order))
        if begins(mark, row):
            return (order, row[len(mark):])
    return (None, list(row))
