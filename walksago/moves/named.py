"""Webs whose moves are made here, and named in order."""

from walksago.errors import NoWeb
from walksago.moves.texts import LETTERS

# A web that is made here may be handed on, so it is no greater than what may be handed in.
MOST = 8
GREATEST_WEIGHT = 99


def first_names(many):
    """The first names, `a`, `b`, .., so many of them; or NoWeb where that is too many."""
    if many > MOST:
        raise NoWeb(0)
    return tuple(LETTERS[:many])


def named_web(states, weights, ways):
    """The web of moves by their weights and by the places to which they lead; or NoWeb where it is too great."""
    names = first_names(len(ways))
    if max(weights) > GREATEST_WEIGHT:
        raise NoWeb(0)
    images = [tuple([states[at] for at in way]) for way in ways]
    return states, tuple(zip(names, weights, images))
