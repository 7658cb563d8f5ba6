"""How long two who came to different spots of a table tongue may be held apart."""


def steps_of(tongue):
    """By each begun row: by each byte that goes on from it, the begun row behind that byte."""
    steps = {}
    for sign, row in tongue.rows():
        for size in range(len(row)):
            begun = tuple(row[:size])
            steps.setdefault(begun, {})
            steps[begun][row[size]] = tuple(row[:size + 1]) if size + 1 < len(row) else ()
    return steps


def apart_behind(steps, one, other):
    """By each byte that holds two begun rows apart: the two begun rows behind it."""
    found = {}
    for byte, goal in steps[one].items():
        if byte in steps[other] and steps[other][byte] != goal:
            found[byte] = (goal, steps[other][byte])
    return found


def apart_of(steps):
    """By each two begun rows, one way round and the other: what holds them apart."""
    apart = {}
    for one in steps:
        for other in steps:
            if one != other:
                apart[(one, other)] = apart_behind(steps, one, other)
    return apart


def ahead_of(apart):
    """By each two begun rows: those that a byte leads to them."""
    found = {}
    for pair in apart:
        found[pair] = []
    for pair, behind in apart.items():
        for goal in behind.values():
            found[goal].append(pair)
    return found


def farthest(apart):
    """By each two begun rows: the greatest length of a row that holds them apart, and its first byte.

    Left out are those for which there is no greatest one.
    """
    # From the end: two begun rows come in turn when all those behind them are known.
    far = {}
    ahead = ahead_of(apart)
    unknown = {}
    for pair, behind in apart.items():
        unknown[pair] = len(behind)
    known = [pair for pair, behind in apart.items() if not behind]
    while known:
        pair = known.pop()
        far[pair] = max([(far[goal][0] + 1, byte) for byte, goal in apart[pair].items()], default=(0, None))
        for earlier in ahead[pair]:
            unknown[earlier] -= 1
            if unknown[earlier] == 0:
                known.append(earlier)
    return far


def row_apart(apart, far, pair):
    """A row of the greatest length that holds two begun rows apart."""
    row = []
    while far[pair][0] > 0:
        byte = far[pair][1]
        row.append(byte)
        pair = apart[pair][byte]
    return row


def trip_from(apart, far, pair):
    """On from two begun rows that are held apart for ever: two that a row leads back to themselves, and this row."""
    row = []
    met = {}
    while pair not in met:
        met[pair] = len(row)
        onward = [byte for byte, goal in apart[pair].items() if goal not in far]
        row.append(onward[0])
        pair = apart[pair][onward[0]]
    return (pair, row[met[pair]:])


def witness(pair, row):
    return (list(pair[0]), list(pair[1]), row)


def slack(tongue):
    """The greatest length of a row that holds two spots apart, and such a row; or that there is none greatest."""
    apart = apart_of(steps_of(tongue))
    if not apart:
        return ("within", 0, None)
    far = farthest(apart)
    endless = [pair for pair in apart if pair not in far]
    if endless:
        trip = trip_from(apart, far, endless[0])
        return ("never", 0, witness(trip[0], trip[1]))
    pair = max(apart, key=lambda each: far[each][0])
    return ("within", far[pair][0], witness(pair, row_apart(apart, far, pair)))
