"""The order of lists of numbers."""


def ahead(one, other):
    """-1 where one is ahead of other, 1 where other is ahead, 0 where they are alike."""
    if one == other:
        return 0
    return -1 if one < other else 1


def begins(one, other):
    """Whether one is a beginning of other."""
    return other[:len(one)] == one
