"""Where pasts lead the states, and where all meet by them."""

from walksago.errors import NoName
from walksago.moves.ways import names_in, ways_in


def ways_of(web, past):
    """For each move of a past, in order, the places to which it leads the states; or NoName."""
    ways = dict(zip(names_in(web), ways_in(web)))
    # The whole past is looked at, also what lies ahead of the moves that are enough to meet.
    for name in past:
        if name not in ways:
            raise NoName(name)
    return [ways[name] for name in past]


def led_by(web, past):
    """Where a past leads each state, in the states' order; or NoName."""
    ways = ways_of(web, past)
    led = list(web[0])
    # From now back: what the later moves do is known already, so one move longer ago only chooses among it.
    for way in reversed(ways):
        led = [led[at] for at in way]
    return tuple(led)


def met_by(web, past):
    """Where all meet by a past, and the least number of its last moves that is enough; or None; or NoName."""
    ways = ways_of(web, past)
    led = list(web[0])
    many = 0
    while len(set(led)) > 1 and many < len(ways):
        many += 1
        led = [led[at] for at in ways[-many]]
    if len(set(led)) > 1:
        return None
    return led[0], many
