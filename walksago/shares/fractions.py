"""Fractions, pairs (above, below) in least numbers, and rows of whole numbers that are solved by them."""


def common_divisor(one, other):
    """The greatest whole number that divides both; not both are 0."""
    while other != 0:
        one, other = other, one % other
    return abs(one)


def least(above, below):
    """The fraction of two whole numbers, the below any but 0."""
    divisor = common_divisor(above, below)
    if below < 0:
        divisor = -divisor
    return above // divisor, below // divisor


def common_below(shares):
    """The least number from 1 on that the belows of all fractions divide."""
    common = 1
    for above, below in shares:
        common = common * below // common_divisor(common, below)
    return common


def parts_of(shares, below):
    """What stands above in each fraction when it is written over a number that its own below divides."""
    return [above * (below // own) for above, own in shares]


def solved(rows):
    """The fractions that solve all rows; each row: a whole number for each fraction, then what they come to.

    There must be as many rows as fractions, and just one solution.
    """
    left = list(rows)
    before = 1
    for at in range(len(left)):
        bring_up(left, at)
        left = [row if place == at else cleared(row, left[at], at, before) for place, row in enumerate(left)]
        before = left[at][at]
    return [least(row[-1], row[at]) for at, row in enumerate(left)]


def bring_up(rows, at):
    """Put a row that does not have 0 at a place there, exchanged with the one that stood there."""
    chosen = at
    while rows[chosen][at] == 0:
        chosen += 1
    rows[at], rows[chosen] = rows[chosen], rows[at]


def cleared(row, by, at, before):
    """A row made 0 at a place by means of the row that stands there."""
    # What stands here are determinants of parts of the rows, which the one used before always divides:
    # so all stay whole, and about as short as can be.
    return [(by[at] * mine - row[at] * other) // before for mine, other in zip(row, by)]
