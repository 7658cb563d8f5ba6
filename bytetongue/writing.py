"""Texts written whole."""

from bytetongue.errors import NoSign


def write(tongue, text):
    """The text's row in the tongue."""
    row = []
    page = 0
    for at, sign in enumerate(text):
        try:
            spelled = tongue.spell(sign, page)
        except NoSign:
            raise NoSign(sign, at) from None
        row.extend(spelled[0])
        page = spelled[1]
    return row
