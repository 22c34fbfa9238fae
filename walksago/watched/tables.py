"""Webs cut out of tables of shares."""

from walksago.errors import NoTable
from walksago.moves.named import named_web
from walksago.shares.fractions import common_below, common_divisor, parts_of


def is_row(row, many):
    """Whether a row has so many shares, none below 0, together 1."""
    common = common_below(row)
    parts = parts_of(row, common)
    return len(row) == many and all([part >= 0 for part in parts]) and sum(parts) == common


def check_table(many, table):
    """Refuse with NoTable what is not so many rows of so many shares, by the first wrong row."""
    for at in range(max(many, len(table))):
        if at >= min(many, len(table)) or not is_row(table[at], many):
            raise NoTable(at)


def ends_in(row, common):
    """Where each share of a row ends when they are laid one behind the other, over a common below."""
    ends = []
    end = 0
    for part in parts_of(row, common):
        end += part
        ends.append(end)
    return ends


def in_least(lengths):
    """The least whole numbers that are to one another as the lengths."""
    divisor = 0
    for length in lengths:
        divisor = common_divisor(divisor, length)
    return [length // divisor for length in lengths]


def web_of(states, table):
    """The web cut out of a table of shares; or NoTable, then NoWeb."""
    check_table(len(states), table)
    common = common_below([share for row in table for share in row])
    rows = [ends_in(row, common) for row in table]
    cuts = sorted({end for ends in rows for end in (0, *ends)})
    lengths = [end - begin for begin, end in zip(cuts, cuts[1:])]
    # A piece belongs to the first share that ends behind where it begins: all others up to there end ahead of it.
    ways = [[len([end for end in ends if end <= begin]) for ends in rows] for begin in cuts[:-1]]
    return named_web(states, in_least(lengths), ways)
