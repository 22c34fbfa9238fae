"""Webs that several tests use, and ways to go through many of them."""

import itertools
import math
import random
from fractions import Fraction

# Three states; `down` and `up` push them together, `turn` only swaps two.
STEPS = (
    ("a", "b", "c"),
    (
        ("down", 2, ("a", "a", "b")),
        ("up", 1, ("b", "c", "c")),
        ("turn", 3, ("b", "a", "c")),
    ),
)
STEPS_TEXT = "a b c\ndown 2 a a b\nup 1 b c c\nturn 3 b a c"

ONE = (("a",), (("a", 1, ("a",)),))

# As much as may be handed in: 8 states and 8 moves, names of eight letters, weights of 99.
EIGHT_NAMES = tuple(letter * 8 for letter in "abcdefgh")
GREATEST = (
    EIGHT_NAMES,
    tuple((name, 99, EIGHT_NAMES[at:] + EIGHT_NAMES[:at]) for at, name in enumerate(EIGHT_NAMES)),
)

# `turn` leads round, `push` pushes one state onto its neighbour: no web of eight states needs a longer past.
LONGEST = (
    EIGHT_NAMES,
    (("turn", 1, EIGHT_NAMES[1:] + EIGHT_NAMES[:1]), ("push", 1, (EIGHT_NAMES[1],) + EIGHT_NAMES[1:])),
)

# All fall to `a` by one move of a hundred, else nothing changes that lets them meet.
SLOW = (("a", "b"), (("fall", 1, ("a", "a")), ("turn", 99, ("b", "a"))))

# Two closed classes, (b, d) and (c,); a and e are outside of both.
SPLIT = (
    ("a", "b", "c", "d", "e"),
    (("x", 1, ("b", "d", "c", "b", "a")), ("y", 3, ("c", "b", "c", "d", "e"))),
)

# One closed class, (b, c); a is outside of it.
OUTSIDE = (("a", "b", "c"), (("x", 1, ("b", "c", "b")), ("y", 2, ("a", "b", "b"))))


def all_pasts(web, longest):
    names = [name for name, weight, images in web[1]]
    for many in range(longest + 1):
        yield from itertools.product(names, repeat=many)


def small_webs():
    """Every web of at most three states with two moves, weights aside."""
    for states in (("a",), ("a", "b"), ("a", "b", "c")):
        rows = list(itertools.product(states, repeat=len(states)))
        for one, other in itertools.combinations_with_replacement(rows, 2):
            yield states, (("a", 1, one), ("b", 2, other))


def mixed_webs(most_states, most_moves, many=40):
    """Webs of all sizes, their images and weights mixed, the same ones each time."""
    mixed = random.Random(2026)
    for at in range(many):
        states = tuple("cabed"[: 1 + at % most_states])
        names = "zyxwvuts"[: mixed.randint(1, most_moves)]
        yield states, tuple((name, mixed.randint(1, 99), tuple(mixed.choices(states, k=len(states)))) for name in names)


def walked(web, past):
    """Each state walked on by itself, one move behind the other."""
    states, moves = web
    ends = []
    for state in states:
        for done in past:
            for name, weight, images in moves:
                if name == done:
                    after = images[states.index(state)]
            state = after
        ends.append(state)
    return tuple(ends)


def as_numbers(shares):
    """Pairs (above, below) as Python's own fractions."""
    return [Fraction(above, below) for above, below in shares]


def one_number(share):
    return Fraction(share[0], share[1])


def share_of(web, past):
    """The product of the shares of a past's moves."""
    weights = {name: weight for name, weight, images in web[1]}
    return math.prod([Fraction(weights[name], sum(weights.values())) for name in past], start=Fraction(1))


def met_past_by_past(web, many):
    """For each state the share of those pasts of so many moves that meet there."""
    met = {state: Fraction(0) for state in web[0]}
    for past in itertools.product([name for name, weight, images in web[1]], repeat=many):
        ends = set(walked(web, past))
        if len(ends) == 1:
            met[min(ends)] += share_of(web, past)
    return list(met.values())


def as_pair(number):
    """One of Python's own fractions as a pair (above, below)."""
    number = Fraction(number)
    return number.numerator, number.denominator


def assert_fraction(test, told):
    """That what is told is a fraction in least numbers."""
    test.assertIs(type(told), tuple)
    test.assertEqual([type(part) for part in told], [int, int])
    test.assertGreaterEqual(told[1], 1)
    test.assertEqual(math.gcd(*told), 1)


def assert_fractions(test, told):
    test.assertIs(type(told), tuple)
    for share in told:
        assert_fraction(test, share)
