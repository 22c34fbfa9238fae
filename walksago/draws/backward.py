"""What is drawn by so many moves back, and how many of them are enough."""

from walksago.moves.ways import group_steps, weights_in, whole_group
from walksago.shares.fractions import least

# Farther back than this is not looked.
FARTHEST = 400


def one_more(weights, steps, led):
    """The weights of the pasts of one move more, by where they lead what those of one less have led so far."""
    after = {}
    for one in led:
        for weight, further in zip(weights, steps[one]):
            after[further] = after.get(further, 0) + led[one] * weight
    return after


def weights_from(weights, steps, first, most):
    """For each number of moves, from 0 to the most, the weights of its pasts by where they lead a first one."""
    led = {first: 1}
    yield led
    for done in range(most):
        led = one_more(weights, steps, led)
        yield led


def led_weights(web, most):
    """For each number of moves, from 0 to the most, the weights of its pasts by the groups to which they lead all."""
    # How a past goes on hangs on the group alone, so few groups are carried on where pasts are many.
    weights = weights_in(web)
    whole = whole_group(web)
    steps = group_steps(web, whole)
    yield from weights_from(weights, steps, whole, most)


def met_weights(web, many):
    """The weights of the pasts of so many moves that meet in each place, and the weight of all of them."""
    led = list(led_weights(web, many))[-1]
    return [led.get((at,), 0) for at in range(len(web[0]))], sum(led.values())


def drawn_by(web, many):
    """The shares of the pasts of so many moves that meet in each state, and of those that do not meet."""
    met, whole = met_weights(web, many)
    return tuple([least(weight, whole) for weight in met]), least(whole - sum(met), whole)


def far_enough(web, share):
    """How many moves back are enough that at least a share of the pasts meet; or None."""
    above, below = share
    for many, led in enumerate(led_weights(web, FARTHEST)):
        met = sum([led[group] for group in led if len(group) == 1])
        if met * below >= above * sum(led.values()):
            return many
    return None
