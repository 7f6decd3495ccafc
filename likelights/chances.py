"""Chances: with which grains of the three sorts come through a web."""

from likelights.errors import BadRows, BadSort, NotLone, TooMany
from likelights.patterns import (
    MOST_GRAINS,
    check_pattern_of,
    check_same_count,
    is_lone,
    is_pattern,
    patterns,
    repeats,
)
from likelights.ratios import NO_SHARE, WHOLE, add_fractions, least_fraction, multiply_fractions
from likelights.sums import multiplied_out, signed_out
from likelights.weights import size

SORTS = ("strangers", "flockers", "shunners")
MOST_ROWS = 3


def chance(web, sort, start, end):
    """Return the chance with which grains of this sort come from start to end."""
    check_sort(sort)
    check_grains_of(sort, start, web.lines)
    check_grains_of(sort, end, web.lines)
    check_same_count(start, end)
    return chances_by_pattern(web, sort, start)[end]


def chances(web, sort, start):
    """Return (pattern, chance) for all patterns that grains of this sort may come to."""
    check_sort(sort)
    check_grains_of(sort, start, web.lines)
    return in_sequence(chances_by_pattern(web, sort, start), web.lines, sum(start))


def company(web, rows):
    """Return (pattern, chance) for what comes of several rows of grains that can be told from each other."""
    check_rows(rows, web.lines)
    grains = sum([sum(start) for _, start in rows])
    if grains > MOST_GRAINS:
        raise TooMany(grains)
    found = {tuple([0 for _ in range(web.lines)]): WHOLE}
    for sort, start in rows:
        found = both_added(found, chances_by_pattern(web, sort, start))
    for pattern in patterns(web.lines, grains):
        found.setdefault(pattern, NO_SHARE)
    return in_sequence(found, web.lines, grains)


def chances_by_pattern(web, sort, start):
    """Return a dict with the chance of each pattern that grains of this sort may come to."""
    if sort == "strangers":
        return strangers(web, start)
    if sort == "flockers":
        return flockers(web, start)
    return shunners(web, start)


def strangers(web, start):
    """Return a dict with the chance of each pattern for grains whose chances are added."""
    # Sizes are multiplied out as weights without i; each product comes of as
    # many pairings as its repeats, by which the chance is divided again.
    table = [[as_weight(size(weight)) for weight in row] for row in web.table]
    found = multiplied_out(table, start)
    return {pattern: (top, bottom) for pattern, (top, _, bottom) in found.items()}


def flockers(web, start):
    """Return a dict with the chance of each pattern for grains whose weights are added."""
    # The sum over pairings is repeats times the product's weight, so its size
    # has them twice, and is divided by them once.
    found = multiplied_out(web.table, start)
    many = repeats(start)
    return {
        pattern: multiply_fractions(size(weight), least_fraction(repeats(pattern), many))
        for pattern, weight in found.items()
    }


def shunners(web, start):
    """Return a dict with the chance of each lone pattern for grains of which one is at a line at most."""
    return {pattern: size(weight) for pattern, weight in signed_out(web.table, start).items()}


def as_weight(fraction):
    """Return the weight without i that a fraction is."""
    top, bottom = fraction
    return (top, 0, bottom)


def both_added(ones, others):
    """Return a dict with the chance of each sum of two patterns that come independently."""
    found = {}
    for one, share in ones.items():
        for other, other_share in others.items():
            pattern = tuple([grains + more for grains, more in zip(one, other)])
            part = multiply_fractions(share, other_share)
            found[pattern] = add_fractions(found.get(pattern, NO_SHARE), part)
    return found


def in_sequence(found, lines, grains):
    """Return the tuple of (pattern, chance) of a dict, patterns as they stand."""
    return tuple([(pattern, found[pattern]) for pattern in patterns(lines, grains) if pattern in found])


def is_sort(value):
    """Tell whether value is one of the three sorts."""
    return isinstance(value, str) and value in SORTS


def check_sort(value):
    """Raise BadSort unless value is one of the three sorts."""
    if not is_sort(value):
        raise BadSort(value)


def check_grains_of(sort, value, lines):
    """Raise BadPattern, TooMany, NotLone unless grains of this sort may be as value tells."""
    check_pattern_of(value, lines)
    if sort == "shunners" and not is_lone(value):
        raise NotLone(value)


def check_rows(value, lines):
    """Raise BadRows unless value is a tuple of one to three rows of grains at so many lines."""
    if not isinstance(value, tuple) or not 1 <= len(value) <= MOST_ROWS:
        raise BadRows(value)
    if not all([is_row(row, lines) for row in value]):
        raise BadRows(value)


def is_row(value, lines):
    """Tell whether value is a pair of a sort and a pattern of so many lines, lone for shunners."""
    if not isinstance(value, tuple) or len(value) != 2:
        return False
    sort, start = value
    if not is_sort(sort) or not is_pattern(start) or len(start) != lines:
        return False
    return sort != "shunners" or is_lone(start)
