"""Where one who comes amid the bytes is in step with them."""


def spot_behind(tongue, spot, unit):
    """The spot to which a unit leads from a spot; None where it does not go on from there."""
    begun = spot[1] + unit
    found = tongue.look(list(begun), spot[0])
    if found[0] == "none":
        return None
    return (found[2], () if found[0] == "sign" else begun)


def spots_behind(tongue, spots, unit):
    """For each spot to which a unit leads from some of these: those from which it does."""
    behind = {}
    for spot in spots:
        goal = spot_behind(tongue, spot, unit)
        if goal is not None:
            behind[goal] = behind.get(goal, []) + [spot]
    return behind


def layers_along(tongue, units):
    """The spots at which one may be, ahead of the units and behind each: each with those one unit ahead of it."""
    layer = {}
    for page, begun in tongue.spots():
        layer[(page, tuple(begun))] = []
    layers = [layer]
    for unit in units:
        layer = spots_behind(tongue, layer, unit)
        layers.append(layer)
    return layers


def spots_ahead(layer, spots):
    """Those one unit ahead of these spots of a layer."""
    found = []
    for spot in spots:
        found.extend(layer[spot])
    return found


def in_step(tongue, row):
    """After how many bytes, and at which page, nothing is begun, wherever one was ahead of the row; or None."""
    size = tongue.unit()
    layers = layers_along(tongue, [tuple(row[at:at + size]) for at in range(0, len(row), size)])
    many = len(row)
    # Back from the end, so that only the spots are met from which all of the row goes on.
    spots = list(layers[-1])
    least = None
    for layer in reversed(layers):
        if len(spots) == 1 and not spots[0][1]:
            least = (many, spots[0][0])
        spots = spots_ahead(layer, spots)
        many -= size
    return least
