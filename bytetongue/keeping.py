"""Whether texts and their rows stand in the same order."""

from bytetongue.orders import ahead
from bytetongue.pairs import PairTongue
from bytetongue.shifts import ShiftTongue
from bytetongue.tables import TableTongue

# In both orders the row of the second is ahead of the row of the first.
PAIR_SIGNS = (65535, 65536)


def signs_to_compare(tongue):
    """Signs, rising, of which two neighbours show it where the tongue does not keep the order."""
    if isinstance(tongue, PairTongue):
        return list(PAIR_SIGNS)
    if isinstance(tongue, ShiftTongue):
        return sorted(set(tongue.signs(0) + tongue.signs(1)))
    if isinstance(tongue, TableTongue):
        return sorted([sign for sign, row in tongue.rows()])
    # The lead tongue keeps it, and a Tongue by itself has but the text without signs.
    return []


def texts_by_page(tongue, signs):
    """By each page to which a text of these signs goes: such a text."""
    texts = {0: []}
    # No tongue has more than two pages, so one sign is enough to come to each.
    for sign in signs:
        texts.setdefault(tongue.spell(sign, 0)[1], [sign])
    return texts


def disorder(tongue):
    """Two texts, the first ahead of the second, of which the second's row is ahead of the first's; or None."""
    signs = signs_to_compare(tongue)
    # Where two texts differ first they are at one page, and no row of the signs there begins another one: so
    # these rows tell which text's row is ahead.
    for page, text in texts_by_page(tongue, signs).items():
        for one, other in zip(signs, signs[1:]):
            if ahead(tongue.spell(one, page)[0], tongue.spell(other, page)[0]) == 1:
                return (text + [one], text + [other])
    return None
