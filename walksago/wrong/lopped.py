"""Shares drawn wrongly: by moves from now on till all meet, and by those pasts alone that meet."""

from walksago.draws.backward import met_weights
from walksago.moves.ways import group_steps, weights_in, whole_group
from walksago.shares.chains import resting
from walksago.shares.fractions import common_below, least, parts_of, solved


def visits_from(weights, steps, first):
    """How often each group is come to on average, from a first one on till all meet; they must be sure to meet."""
    whole = sum(weights)
    places = {group: at for at, group in enumerate(steps)}
    rows = [[0] * (len(steps) + 1) for group in steps]
    for group, at in places.items():
        rows[at][at] += whole
        # Nothing is done any more where all have met.
        if len(group) > 1:
            for weight, led in zip(weights, steps[group]):
                rows[places[led]][at] -= weight
    rows[places[first]][-1] = whole
    return dict(zip(places, solved(rows)))


def lopped_ahead(web):
    """The shares of the state where all meet by moves from now on; or None where they never do."""
    whole = whole_group(web)
    steps = group_steps(web, whole)
    if not any([len(group) == 1 for group in steps]):
        return None
    visits = visits_from(weights_in(web), steps, whole)
    # All meet once only, so how often they do so in a state on average is its share.
    return tuple([visits.get((at,), (0, 1)) for at in range(len(web[0]))])


def lopped_back(web, many):
    """The shares of the states among those pasts of so many moves that meet; or None where none do."""
    met = met_weights(web, many)[0]
    if sum(met) == 0:
        return None
    return tuple([least(weight, sum(met)) for weight in met])


def apart(one, other):
    """How far two rows of shares are apart: half of the sum of their differences."""
    common = common_below((*one, *other))
    differences = [abs(mine - theirs) for mine, theirs in zip(parts_of(one, common), parts_of(other, common))]
    return least(sum(differences), 2 * common)


def apart_or_none(rest, lopped):
    """How far lopped shares are apart from the resting ones; or None where there are no lopped ones."""
    return None if lopped is None else apart(lopped, rest)


def ahead_apart(web):
    """How far the shares by moves from now on are apart from the resting ones; or None; or NoRest ahead of it."""
    return apart_or_none(resting(web), lopped_ahead(web))


def back_apart(web, many):
    """How far the shares by pasts that meet are apart from the resting ones; or None; or NoRest ahead of it."""
    return apart_or_none(resting(web), lopped_back(web, many))
