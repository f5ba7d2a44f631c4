"""Stands, places with a stock: the greatest stocks one can come to, and walks that are gone with a stock.

More stock is never worse, so of each place only the greatest stock counts.
"""

from anyaround.searches import come_to, leaving, ring_back


def raised(steps, most, came):
    """Go over all steps once and raise the stocks of most by them; the place that was raised last, or None."""
    late = None
    for step in steps:
        stock = most.get(step[0])
        if stock is None:
            continue
        behind = stock + step[4]
        if behind < 0:
            continue
        # A place with None is as high as can be.
        if step[1] not in most or (most[step[1]] is not None and most[step[1]] < behind):
            most[step[1]] = behind
            came[step[1]] = step
            late = step[1]
    return late


def most_stocks(steps, place, stock):
    """The dict from all places to which one can come with a stock to the greatest one there, None for no greatest."""
    most = {place: stock}
    came = {}
    late = place
    # Without a ring that gains no place is raised in a round later than there are places, so this ends.
    while late is not None:
        late = raised(steps, most, came)
        ring = ring_back(came, late)
        if ring is not None:
            # Round this ring one gains as much as one likes, and can then go any walk.
            for end in come_to(steps, [ring[0][0]]):
                most[end] = None
                came.pop(end, None)
    return {end: most[end] for end in sorted(most)}


def first_layer(place, stock):
    """The layer of the walk without steps.

    A layer leads from the ends of walks of like many steps to pairs: the greatest stock behind them, the last step.
    """
    return {place: (stock, None)}


def next_layer(ahead, layer):
    """The layer of the walks that are a step longer; ahead leads from places to steps that leave them."""
    longer = {}
    for place, (stock, _) in layer.items():
        for step in ahead.get(place, []):
            behind = stock + step[4]
            if behind >= 0 and (step[1] not in longer or longer[step[1]][0] < behind):
                longer[step[1]] = (behind, step)
    return longer


def walk_to(layers, place):
    """The walk that the layers tell to a place of the last one."""
    walk = []
    for layer in reversed(layers[1:]):
        step = layer[place][1]
        walk.append(step)
        place = step[0]
    return list(reversed(walk))


def longest_layers(steps, place, stock):
    """The layers of all walks that can be gone with a stock, where these are finitely many."""
    ahead = leaving(steps)
    layers = []
    layer = first_layer(place, stock)
    while layer:
        layers.append(layer)
        layer = next_layer(ahead, layer)
    return layers
