"""Webs of moves, read from texts and written as texts."""

from walksago.errors import NoWeb

LETTERS = "abcdefghijklmnopqrstuvwxyz"
FIGURES = "0123456789"
LONGEST_NAME = 8


def is_name(word):
    """Whether a word is a name."""
    return 1 <= len(word) <= LONGEST_NAME and all([sign in LETTERS for sign in word])


def is_weight(word):
    """Whether a word is a number from 1 on in figures, without a nought ahead."""
    # A nought ahead is barred, so the number 0 is barred with it.
    return word != "" and word[0] != "0" and all([sign in FIGURES for sign in word])


def states_in(row):
    """The states that a row names, or None where the row is wrong."""
    # Split at each single blank: two side by side, or one at an end, leave an empty word, which is no name.
    words = row.split(" ")
    if not all([is_name(word) for word in words]):
        return None
    if len(set(words)) < len(words):
        return None
    return tuple(words)


def move_in(row, states):
    """The move that a row tells, or None where the row is wrong by itself."""
    words = row.split(" ")
    if len(words) != 2 + len(states):
        return None
    name, weight, *images = words
    if not is_name(name) or not is_weight(weight):
        return None
    if not all([image in states for image in images]):
        return None
    return name, int(weight), tuple(images)


def web_in(rows):
    """The web that rows tell, at least one; refused with NoWeb, by the first wrong row."""
    states = states_in(rows[0])
    if states is None:
        raise NoWeb(0)
    if len(rows) == 1:
        raise NoWeb(1)
    moves = []
    named = set()
    for at in range(1, len(rows)):
        move = move_in(rows[at], states)
        if move is None or move[0] in named:
            raise NoWeb(at)
        named.add(move[0])
        moves.append(move)
    return states, tuple(moves)


def read_web(text):
    """The web that a text tells; refused with NoWeb, by its first wrong row."""
    return web_in(text.split("\n"))


def rows_shown(web):
    """The rows that tell a web."""
    states, moves = web
    rows = [" ".join(states)]
    for name, weight, images in moves:
        rows.append(" ".join([name, str(weight), *images]))
    return rows


def web_shown(web):
    """The text that tells a web."""
    return "\n".join(rows_shown(web))
