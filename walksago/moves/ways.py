"""Webs by the places of their states: where moves lead places and groups of them, and what can be come to."""


def ways_in(web):
    """For each move, in the web's order, the places to which it leads the states."""
    states, moves = web
    places = {state: at for at, state in enumerate(states)}
    return [[places[image] for image in images] for name, weight, images in moves]


def names_in(web):
    """The names of the moves, in the web's order."""
    return [name for name, weight, images in web[1]]


def weights_in(web):
    """The weights of the moves, in the web's order."""
    return [weight for name, weight, images in web[1]]


def steps_from(first, leads):
    """All that can be come to from a first one, by no step too, each with what leads tells of it."""
    steps = {}
    waiting = [first]
    while waiting:
        one = waiting.pop()
        if one not in steps:
            steps[one] = leads(one)
            waiting.extend(steps[one])
    return steps


def place_steps(web):
    """For each place, where each move leads it."""
    ways = ways_in(web)
    return [[way[at] for way in ways] for at in range(len(web[0]))]


def whole_group(web):
    """The places of all states; a group is a tuple of places, rising."""
    return tuple(range(len(web[0])))


def led_group(way, group):
    """The group to which a move leads another one; of one place alone where all of it meet."""
    return tuple(sorted({way[at] for at in group}))


def group_steps(web, first):
    """All groups that can be come to from a first one, by no move too, each with where each move leads it."""
    ways = ways_in(web)
    return steps_from(first, lambda group: [led_group(way, group) for way in ways])
