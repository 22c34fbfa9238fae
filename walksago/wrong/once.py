"""Moves read once, in blocks: the states drawn so, and their shares."""

from walksago.draws.backward import met_weights, weights_from
from walksago.moves.done import led_by, ways_of
from walksago.moves.ways import place_steps, weights_in
from walksago.shares.fractions import least, solved


def full_blocks(row, block):
    """The moves of a row in blocks of so many; one that is not full is left."""
    blocks = []
    begun = ()
    for name in row:
        begun = (*begun, name)
        if len(begun) == block:
            blocks.append(begun)
            begun = ()
    return blocks


def read_once(web, row, block):
    """The states drawn by reading moves once, in blocks of so many; or NoName."""
    # All moves are looked at, also those of a block that is left.
    ways_of(web, row)
    held = None
    drawn = []
    for names in full_blocks(row, block):
        led = led_by(web, names)
        if len(set(led)) == 1:
            if held is not None:
                drawn.append(held)
            held = led[0]
        elif held is not None:
            held = led[web[0].index(held)]
    return tuple(drawn)


def block_meets(web, block):
    """The share of blocks of so many moves that let all meet."""
    met, whole = met_weights(web, block)
    return least(sum(met), whole)


def block_weights(web, block):
    """For each place, the weights of the blocks that lead it to each place."""
    weights = weights_in(web)
    steps = place_steps(web)
    rows = []
    for first in range(len(web[0])):
        led = list(weights_from(weights, steps, first, block))[-1]
        rows.append([led.get(at, 0) for at in range(len(web[0]))])
    return rows


def once_shares(web, block):
    """The shares of what is drawn by a block that meets behind any that do not; or None where none meets."""
    met, whole = met_weights(web, block)
    if sum(met) == 0:
        return None
    between = block_weights(web, block)
    rows = []
    for at in range(len(met)):
        # The blocks that meet lead all places to the same one, so less them those are left that lead the held one on.
        row = [met[at] - weights[at] for weights in between]
        row[at] += whole
        rows.append(row + [met[at]])
    return tuple(solved(rows))
