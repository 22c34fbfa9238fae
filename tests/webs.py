"""Webs that several tests use, and ways to go through many of them."""

import itertools

# Three states; `down` and `up` push them together, `turn` only swaps two.
STEPS = (
    ("a", "b", "c"),
    (
        ("down", 2, ("a", "a", "b")),
        ("up", 1, ("b", "c", "c")),
        ("turn", 3, ("b", "a", "c")),
    ),
)
STEPS_TEXT = "a b c\ndown 2 a a b\nup 1 b c c\nturn 3 b a c"

ONE = (("a",), (("a", 1, ("a",)),))

# As much as may be handed in: 8 states and 8 moves, names of eight letters, weights of 99.
EIGHT_NAMES = tuple(letter * 8 for letter in "abcdefgh")
GREATEST = (
    EIGHT_NAMES,
    tuple((name, 99, EIGHT_NAMES[at:] + EIGHT_NAMES[:at]) for at, name in enumerate(EIGHT_NAMES)),
)


def all_pasts(web, longest):
    names = [name for name, weight, images in web[1]]
    for many in range(longest + 1):
        yield from itertools.product(names, repeat=many)


def small_webs():
    """Every web of at most three states with two moves, weights aside."""
    for states in (("a",), ("a", "b"), ("a", "b", "c")):
        rows = list(itertools.product(states, repeat=len(states)))
        for one, other in itertools.combinations_with_replacement(rows, 2):
            yield states, (("a", 1, one), ("b", 2, other))
