"""Few states that are enough to watch: wherever they have met, all have."""

from walksago.errors import NoName
from walksago.moves.ways import steps_from, ways_in, whole_group


def met_before(way, met):
    """By a move ahead of what has been done, with which first place each place has met."""
    led = [met[at] for at in way]
    return tuple([led.index(one) for one in led])


def meetings(web):
    """All that can become of the places: each a tuple, for each place the first one with which it has met."""
    ways = ways_in(web)
    # By going back who has met tells all that matters, not where: so there are few of these where pasts are many.
    return list(steps_from(whole_group(web), lambda met: [met_before(way, met) for way in ways]))


def met_alone(web):
    """All groups of places that can have met while others have not met with them."""
    places = whole_group(web)
    groups = {}
    for met in meetings(web):
        for first in sorted(set(met)):
            groups[tuple([at for at in places if met[at] == first])] = True
    return [group for group in groups if group != places]


def is_watch(group, alone):
    """Whether a group of places is enough, by all groups that can have met alone."""
    return not any([all([at in other for at in group]) for other in alone])


def is_enough(web, states):
    """Whether states are enough to watch; or NoName."""
    for state in states:
        if state not in web[0]:
            raise NoName(state)
    return is_watch([web[0].index(state) for state in states], met_alone(web))


def all_groups(places):
    """All groups of places, none too: the fewest places first, then by the places themselves."""
    groups = [()]
    for at in places:
        groups = groups + [(*group, at) for group in groups]
    return sorted(groups, key=lambda group: (len(group), group))


def fewest(web):
    """The least set of states that is enough to watch, in the states' order."""
    alone = met_alone(web)
    enough = [group for group in all_groups(whole_group(web)) if is_watch(group, alone)]
    return tuple([web[0][at] for at in enough[0]])
