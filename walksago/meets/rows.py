"""Rows of all states that are orders which all moves keep."""

from walksago.moves.ways import ways_in


def rows_of(places):
    """All rows of places, in order where the places rise."""
    if not places:
        yield ()
    for at in places:
        others = [other for other in places if other != at]
        for row in rows_of(others):
            yield (at, *row)


def keep_row(ways, row):
    """Whether all moves keep a row of places, from the lowest to the highest."""
    ranks = {at: rank for rank, at in enumerate(row)}
    led = [[ranks[way[at]] for at in row] for way in ways]
    return led == [sorted(one) for one in led]


def orders_kept(web):
    """How many rows of the states are orders that all moves keep, and the first of them or None."""
    states = web[0]
    ways = ways_in(web)
    places = list(range(len(states)))
    many = 0
    first = None
    for row in rows_of(places):
        if keep_row(ways, row):
            many += 1
            if first is None:
                first = tuple([states[at] for at in row])
    return many, first
