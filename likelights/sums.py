"""Sums over all pairings of grains: what a web does with several of them at once."""

from likelights.errors import BadLot, OtherSize
from likelights.patterns import (
    check_pattern_of,
    check_same_count,
    is_lot,
    lone_pattern,
    lots_in,
    lots_of,
    patterns,
    repeats,
)
from likelights.weights import NOUGHT, ONE, add_weights, multiply_weights


def together(web, start, end):
    """Return the sum of what all pairings of two patterns weigh."""
    check_pattern_of(start, web.lines)
    check_pattern_of(end, web.lines)
    check_same_count(start, end)
    # A product of letters comes once for each sequence of the grains at each line of the end.
    return multiply_weights(multiplied_out(web.table, start)[end], (repeats(end), 0, 1))


def apart(web, start, end):
    """Return the sum of what all even pairings of two lots weigh, less that of all odd ones."""
    check_lot(start, web.lines)
    check_lot(end, web.lines)
    if len(start) != len(end):
        raise OtherSize((len(start), len(end)))
    return signed_sum(web.table, start, end)


def spread(web, start):
    """Return (pattern, weight) for all products of letters that the grains' sums come to."""
    check_pattern_of(start, web.lines)
    found = multiplied_out(web.table, start)
    return tuple([(pattern, found[pattern]) for pattern in patterns(web.lines, sum(start))])


def multiplied_out(table, start):
    """Return a dict with the weight of each pattern, once the sums of all grains are multiplied out."""
    found = {tuple([0 for _ in start]): ONE}
    for line, grains in enumerate(start):
        weights = [row[line] for row in table]
        for _ in range(grains):
            found = with_one_grain(found, weights)
    return found


def with_one_grain(products, weights):
    """Return the products behind one more grain, which comes to each line with one of the weights."""
    found = {}
    for pattern, weight in products.items():
        for line, way in enumerate(weights):
            more = pattern[:line] + (pattern[line] + 1,) + pattern[line + 1:]
            found[more] = add_weights(found.get(more, NOUGHT), multiply_weights(weight, way))
    return found


def signed_sum(table, start, end):
    """Return what even pairings of two lots weigh, less what odd ones do."""
    if len(start) == 0:
        return ONE
    total = NOUGHT
    sign = 1
    for at, line in enumerate(end):
        # Leading the first grain past those that end ahead is one exchange for each of them.
        others = signed_sum(table, start[1:], end[:at] + end[at + 1:])
        weight = multiply_weights(table[line][start[0]], others)
        total = add_weights(total, multiply_weights(weight, (sign, 0, 1)))
        sign = -sign
    return total


def signed_out(table, start):
    """Return a dict with the signed sum of each lone pattern to which the grains of a lone one may come."""
    lines = len(start)
    many = sum(start)
    lot = lots_in(start, many)[0]
    return {lone_pattern(end, lines): signed_sum(table, lot, end) for end in lots_of(lines, many)}


def check_lot(value, lines):
    """Raise BadLot unless value is a lot of so many lines."""
    if not is_lot(value, lines):
        raise BadLot(value)
