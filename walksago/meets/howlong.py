"""How many moves it takes on average: back, till all meet, and on, till a walk comes to a state."""

from walksago.errors import NoName
from walksago.moves.ways import group_steps, place_steps, steps_from, weights_in, whole_group
from walksago.shares.fractions import solved


def waits_among(weights, steps, those):
    """For each of those, how many steps it takes on average to come out of them; it must be sure to come out."""
    whole = sum(weights)
    rows = []
    for one in those:
        row = {other: 0 for other in those}
        row[one] = whole
        for weight, led in zip(weights, steps[one]):
            if led in row:
                row[led] -= weight
        rows.append([row[other] for other in those] + [whole])
    return dict(zip(those, solved(rows)))


def back_on_average(web):
    """How many moves back are needed on average till all meet; or None where they never do."""
    whole = whole_group(web)
    steps = group_steps(web, whole)
    apart = [group for group in steps if len(group) > 1]
    if len(apart) == len(steps):
        return None
    # A past that lets all meet lets each group meet, so all of these are sure to come to one place alone.
    return waits_among(weights_in(web), steps, apart).get(whole, (0, 1))


def walk_on_average(web, state):
    """For each state how many moves a walk makes on average till it comes to a state, or None; or NoName."""
    states = web[0]
    if state not in states:
        raise NoName(state)
    goal = states.index(state)
    steps = place_steps(web)
    # A walk ends there, so nothing behind it is come to.
    steps[goal] = []
    reached = [steps_from(at, lambda place: steps[place]) for at in range(len(states))]
    sure = [at for at in range(len(states)) if all([goal in reached[other] for other in reached[at]])]
    waits = waits_among(weights_in(web), steps, [at for at in sure if at != goal])
    waits[goal] = (0, 1)
    return tuple([waits.get(at) for at in range(len(states))])
