"""Orders of the states that moves keep, and what a least and a greatest state tell then."""

from walksago.errors import NoOrder
from walksago.moves.done import ways_of
from walksago.moves.ways import steps_from


def states_above(web, order):
    """For each state all those above it; or NoOrder where a state is below itself."""
    above = {}
    for state in web[0]:
        steps = steps_from(state, lambda one: [upper for lower, upper in order if lower == one])
        # The state itself is among the steps by no pair at all, so only what pairs lead up to counts.
        above[state] = {upper: True for uppers in steps.values() for upper in uppers}
        if state in above[state]:
            raise NoOrder(f"{state} is below itself")
    return above


def keeps(above, images):
    """Whether a move, by its images, leads each two to two that are in order so, or alike."""
    return all([
        images[lower] == images[upper] or images[upper] in above[images[lower]]
        for lower in above
        for upper in above[lower]
    ])


def kept_by(web, above):
    """For each move whether it keeps the order."""
    return tuple([keeps(above, dict(zip(web[0], images))) for name, weight, images in web[1]])


def keep_order(web, order):
    """For each move whether it keeps an order told by pairs; or NoOrder."""
    return kept_by(web, states_above(web, order))


def ends_of(above):
    """The least and the greatest state; or NoOrder where one lacks."""
    lowest = [state for state in above if len(above[state]) == len(above) - 1]
    highest = [state for state in above if all([state in above[other] for other in above if other != state])]
    if not lowest or not highest:
        raise NoOrder("there is no least or no greatest state")
    return lowest[0], highest[0]


def walked(at, ways):
    """The place to which moves lead a place, one behind the other."""
    for way in ways:
        at = way[at]
    return at


def met_by_two(web, order, past):
    """Where all meet by a past, and how many of its last moves are enough, by two states alone; or None.

    Refused with NoName, then with NoOrder.
    """
    ways = ways_of(web, past)
    above = states_above(web, order)
    lowest, highest = [web[0].index(state) for state in ends_of(above)]
    if not all(kept_by(web, above)):
        raise NoOrder("a move does not keep it")
    for many in range(len(ways) + 1):
        last = ways[len(ways) - many:]
        low = walked(lowest, last)
        if low == walked(highest, last):
            return web[0][low], many
    return None
