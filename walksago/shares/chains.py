"""The table of shares from state to state, the closed classes, and resting shares."""

from walksago.errors import NoRest
from walksago.moves.ways import place_steps, steps_from, ways_in, weights_in
from walksago.shares.fractions import common_below, least, parts_of, solved


def weights_between(web):
    """For each place, the sum of the weights that lead it to each place."""
    many = len(web[0])
    rows = [[0] * many for at in range(many)]
    for weight, way in zip(weights_in(web), ways_in(web)):
        for at, led in enumerate(way):
            rows[at][led] += weight
    return rows


def table_of(web):
    """The shares from each state to each state, a tuple of rows."""
    whole = sum(weights_in(web))
    return tuple([tuple([least(weight, whole) for weight in row]) for row in weights_between(web)])


def closed_classes(web):
    """The closed classes, each in the states' order, by their first ones."""
    states = web[0]
    steps = place_steps(web)
    reached = [sorted(steps_from(at, lambda place: steps[place])) for at in range(len(states))]
    classes = []
    for at, group in enumerate(reached):
        if group[0] == at and all([reached[other] == group for other in group]):
            classes.append(tuple([states[other] for other in group]))
    return tuple(classes)


def balance_rows(web):
    """For each place, what of each place's weights comes into it, less all weights of its own, which go on."""
    whole = sum(weights_in(web))
    between = weights_between(web)
    rows = []
    for at in range(len(between)):
        row = [weights[at] for weights in between]
        row[at] -= whole
        rows.append(row)
    return rows


def resting(web):
    """The one row of resting shares; or NoRest."""
    many = len(closed_classes(web))
    if many != 1:
        raise NoRest(f"there are {many} closed classes, not one")
    rows = [row + [0] for row in balance_rows(web)]
    # The last row follows from all others; that the shares are together 1 stands in its stead.
    rows[-1] = [1] * len(rows[-1])
    return tuple(solved(rows))


def rests(web, shares):
    """Whether shares rest."""
    if len(shares) != len(web[0]):
        return False
    # Over one common below only whole numbers are left to be compared.
    common = common_below(shares)
    parts = parts_of(shares, common)
    if min(parts) < 0 or sum(parts) != common:
        return False
    return all([sum([part * much for part, much in zip(parts, row)]) == 0 for row in balance_rows(web)])
