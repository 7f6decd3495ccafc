"""Patterns, which tell how many grains are at each line, and lots of lines."""

from itertools import combinations
from math import factorial

from likelights.checks import are_integers, is_between
from likelights.errors import BadGrains, BadLines, BadLot, BadPattern, BadPlace, BadSize, OtherCount, TooMany

MOST_LINES = 4
MOST_GRAINS = 6


def patterns(lines, grains):
    """Return the tuple of all patterns of so many lines and grains, the greatest first."""
    check_lines(lines)
    check_grains(grains)
    return tuple(all_patterns(lines, grains))


def place_of(pattern):
    """Return the place of a pattern among those of as many lines and grains."""
    check_pattern(pattern)
    return patterns(len(pattern), sum(pattern)).index(pattern)


def pattern_at(lines, grains, place):
    """Return the pattern of so many lines and grains that stands at a place."""
    standing = patterns(lines, grains)
    if not is_between(place, 0, len(standing) - 1):
        raise BadPlace(place)
    return standing[place]


def repeats(pattern):
    """Return the product of the factorials of the numbers in a pattern."""
    check_pattern(pattern)
    found = 1
    for grains in pattern:
        found = found * factorial(grains)
    return found


def lots_in(pattern, size):
    """Return all lots of so many lines that each have a grain, ascending."""
    check_pattern(pattern)
    if not is_between(size, 0, len(pattern)):
        raise BadSize(size)
    filled = [line for line, grains in enumerate(pattern) if grains > 0]
    return tuple(combinations(filled, size))


def less(pattern, lot):
    """Return the pattern with one grain less at each line of a lot."""
    check_pattern(pattern)
    if not is_lot(lot, len(pattern)) or not all([pattern[line] > 0 for line in lot]):
        raise BadLot(lot)
    return tuple([grains - 1 if line in lot else grains for line, grains in enumerate(pattern)])


def all_patterns(lines, grains):
    """Return the list of all patterns, as they stand, of any number of lines from 1 on."""
    if lines == 1:
        return [(grains,)]
    found = []
    for first in range(grains, -1, -1):
        for others in all_patterns(lines - 1, grains - first):
            found.append((first, *others))
    return found


def lots_of(lines, size):
    """Return the tuple of all lots of one size, of so many lines, ascending."""
    return tuple(combinations(range(lines), size))


def lone_pattern(lot, lines):
    """Return the pattern with one grain at each line of a lot."""
    return tuple([1 if line in lot else 0 for line in range(lines)])


def is_lone(pattern):
    """Tell whether no line of a pattern has more than one grain."""
    return all([grains <= 1 for grains in pattern])


def is_pattern(value):
    """Tell whether value is a pattern of 1 to 4 lines, of any number of grains."""
    if not are_integers(value) or not 1 <= len(value) <= MOST_LINES:
        return False
    return all([grains >= 0 for grains in value])


def is_lot(value, lines):
    """Tell whether value is an ascending tuple of lines of so many, perhaps an empty one."""
    if not are_integers(value) or not all([0 <= line < lines for line in value]):
        return False
    return all([value[at] < value[at + 1] for at in range(len(value) - 1)])


def check_lines(value):
    """Raise BadLines unless value is a number of lines."""
    if not is_between(value, 1, MOST_LINES):
        raise BadLines(value)


def check_grains(value):
    """Raise BadGrains unless value is a number of grains of a pattern."""
    if not is_between(value, 0, MOST_GRAINS):
        raise BadGrains(value)


def check_pattern(value):
    """Raise BadPattern, then TooMany, unless value is a pattern of 1 to 4 lines."""
    if not is_pattern(value):
        raise BadPattern(value)
    grains = sum(value)
    if grains > MOST_GRAINS:
        raise TooMany(grains)


def check_pattern_of(value, lines):
    """Raise BadPattern, then TooMany, unless value is a pattern of just so many lines."""
    if not is_pattern(value) or len(value) != lines:
        raise BadPattern(value)
    check_pattern(value)


def check_same_count(start, end):
    """Raise OtherCount unless both patterns have as many grains."""
    if sum(start) != sum(end):
        raise OtherCount((sum(start), sum(end)))
