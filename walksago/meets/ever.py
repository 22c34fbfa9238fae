"""Whether all ever meet: by which past, and which pairs of states never do."""

from walksago.moves.ways import group_steps, led_group, names_in, ways_in, whole_group


def shortest_past(web):
    """The shortest past by which all meet, of several the first by the order of the moves; or None."""
    names = names_in(web)
    ways = ways_in(web)
    whole = whole_group(web)
    pasts = {whole: ()}
    # Groups wait in the order of the first shortest pasts that lead to them: no later past can be an earlier one.
    waiting = [whole]
    while waiting:
        group = waiting.pop(0)
        if len(group) == 1:
            return pasts[group]
        for name, way in zip(names, ways):
            led = led_group(way, group)
            if led not in pasts:
                pasts[led] = (*pasts[group], name)
                waiting.append(led)
    return None


def never_meet(web, one, other):
    """Whether two places never meet, whatever is done."""
    return all([len(group) == 2 for group in group_steps(web, (one, other))])


def never_meeting(web):
    """All pairs of states that never meet, in the states' order, rising by their places."""
    states = web[0]
    many = len(states)
    pairs = [(one, other) for one in range(many) for other in range(one + 1, many)]
    return tuple([(states[one], states[other]) for one, other in pairs if never_meet(web, one, other)])


def are_two_states(web, pair):
    """Whether a pair is one of unlike states of the web."""
    return len(pair) == 2 and pair[0] != pair[1] and all([state in web[0] for state in pair])


def never_shown(web, pairs):
    """Whether pairs of states show that all never meet."""
    if not pairs or not all([are_two_states(web, pair) for pair in pairs]):
        return False
    groups = [tuple(sorted([web[0].index(state) for state in pair])) for pair in pairs]
    return all([led_group(way, group) in groups for way in ways_in(web) for group in groups])
