"""Two webs side by side."""

from walksago.moves.named import first_names, named_web
from walksago.moves.ways import ways_in, weights_in


def way_beside(one, other):
    """Where two moves lead each pair of places, the first web's places first; a pair's place is told by both."""
    return [mine * len(other) + theirs for mine in one for theirs in other]


def beside(one, other):
    """The web of two webs side by side; or NoWeb where it is too great."""
    states = first_names(len(one[0]) * len(other[0]))
    weights = [mine * theirs for mine in weights_in(one) for theirs in weights_in(other)]
    ways = [way_beside(mine, theirs) for mine in ways_in(one) for theirs in ways_in(other)]
    return named_web(states, weights, ways)
