"""Texts written whole."""

from bytetongue.errors import NoSign


def write_from(tongue, text, page):
    """The text's row where its first sign is written at the page, and the page to which its last one goes."""
    row = []
    for at, sign in enumerate(text):
        try:
            spelled = tongue.spell(sign, page)
        except NoSign:
            raise NoSign(sign, at) from None
        row.extend(spelled[0])
        page = spelled[1]
    return (row, page)


def write(tongue, text):
    """The text's row in the tongue."""
    return write_from(tongue, text, 0)[0]
