"""The shunners' table of a web, and how it tells what flockers do."""

from math import comb

from likelights.errors import BadRows, BadTable
from likelights.patterns import (
    MOST_LINES,
    check_lines,
    check_pattern_of,
    check_same_count,
    is_lot,
    less,
    lone_pattern,
    lots_in,
    lots_of,
)
from likelights.ratios import (
    NO_SHARE,
    WHOLE,
    add_fractions,
    contrary,
    is_fraction,
    is_share,
    multiply_fractions,
    total_of,
)
from likelights.sums import signed_sum
from likelights.weights import size


def shunned(web):
    """Return the shunners' table of a web."""
    entries = {(start, end): size(signed_sum(web.table, start, end)) for start, end in lot_pairs(web.lines)}
    return table_of(web.lines, entries)


def table_wrong(value):
    """Return None for a table, otherwise what is wrong with it: form, row, column or left."""
    if not has_form(value):
        return ("form",)
    lines = len(value) - 1
    entries = entries_of(value)
    for lot in all_lots(lines):
        if total_of([entries[(lot, end)] for end in lots_of(lines, len(lot))]) != WHOLE:
            return ("row", lot)
    for lot in all_lots(lines):
        if total_of([entries[(start, lot)] for start in lots_of(lines, len(lot))]) != WHOLE:
            return ("column", lot)
    for start, end in lot_pairs(lines):
        if entries[(start, end)] != entries[(left_over(start, lines), left_over(end, lines))]:
            return ("left", start, end)
    return None


def by_shunned(table, start, end):
    """Return the number that the Fact gives for flockers, with the entries of a table."""
    if table_wrong(table) is not None:
        raise BadTable(table)
    lines = len(table) - 1
    check_pattern_of(start, lines)
    check_pattern_of(end, lines)
    check_same_count(start, end)
    entries = entries_of(table)
    known = {}
    for grains in range(sum(start) + 1):
        for one in patterns_within(start, grains):
            for other in patterns_within(end, grains):
                known[(one, other)] = by_lesser(entries, known, one, other)
    return known[(start, end)]


def backward(lines, rows):
    """Return the parts for which the rule of by_shunned gives the numbers of rows."""
    check_lines(lines)
    check_rows(rows, lines)
    given = {(start, end): number for start, end, number in rows}
    entries = {((), ()): WHOLE}
    known = {(lone_pattern((), lines), lone_pattern((), lines)): WHOLE}
    for start, end in lot_pairs(lines)[1:]:
        one = lone_pattern(start, lines)
        other = lone_pattern(end, lines)
        # The entry itself is the only unsettled one in the rule: left out, what
        # is missing of the number is this entry, with its sign.
        entries[(start, end)] = NO_SHARE
        missing = add_fractions(given[(start, end)], contrary(by_lesser(entries, known, one, other)))
        entries[(start, end)] = signed(missing, len(start))
        known[(one, other)] = given[(start, end)]
    return table_of(lines, entries)


def by_lesser(entries, known, start, end):
    """Return what the Fact gives at two patterns, from the known numbers of fewer grains."""
    if sum(start) == 0:
        return WHOLE
    total = NO_SHARE
    ends = lots_left(end)
    for lot, start_left in lots_left(start):
        for end_lot, end_left in ends:
            if len(lot) == len(end_lot):
                part = multiply_fractions(entries[(lot, end_lot)], known[(start_left, end_left)])
                total = add_fractions(total, signed(part, len(lot)))
    return total


def signed(fraction, many):
    """Return the fraction with the sign that it has in the Fact for lots of so many lines."""
    return fraction if many & 1 else contrary(fraction)


def lots_left(pattern):
    """Return (lot, what is left) for all lots, but the empty one, of lines that have a grain."""
    return [
        (lot, less(pattern, lot))
        for many in range(1, len(pattern) + 1)
        for lot in lots_in(pattern, many)
    ]


def patterns_within(pattern, grains):
    """Return all patterns of so many grains that have no more at any line than the pattern has."""
    found = [()]
    for most in pattern:
        found = [(*ahead, more) for ahead in found for more in range(most + 1)]
    return [one for one in found if sum(one) == grains]


def all_lots(lines):
    """Return all lots of so many lines, the lesser sizes first."""
    return [lot for many in range(lines + 1) for lot in lots_of(lines, many)]


def lot_pairs(lines):
    """Return all pairs of lots of the same size, the lesser sizes first."""
    return [(start, end) for start in all_lots(lines) for end in lots_of(lines, len(start))]


def left_over(lot, lines):
    """Return the lot of those lines that are not in the lot."""
    return tuple([line for line in range(lines) if line not in lot])


def entries_of(table):
    """Return a dict with the entry of each pair of lots."""
    lines = len(table) - 1
    return {
        (start, end): number
        for many, part in enumerate(table)
        for start, row in zip(lots_of(lines, many), part)
        for end, number in zip(lots_of(lines, many), row)
    }


def table_of(lines, entries):
    """Return the tuple of parts with the entry of each pair of lots in its place."""
    return tuple([
        tuple([
            tuple([entries[(start, end)] for end in lots_of(lines, many)])
            for start in lots_of(lines, many)
        ])
        for many in range(lines + 1)
    ])


def has_form(value):
    """Tell whether value is a tuple of the parts of a table, with fractions from 0 to 1."""
    if not isinstance(value, tuple) or not 1 <= len(value) - 1 <= MOST_LINES:
        return False
    lines = len(value) - 1
    return all([is_part(part, comb(lines, many)) for many, part in enumerate(value)])


def is_part(value, many):
    """Tell whether value is a tuple of so many rows of as many fractions from 0 to 1."""
    if not isinstance(value, tuple) or len(value) != many:
        return False
    if not all([isinstance(row, tuple) and len(row) == many for row in value]):
        return False
    return all([is_share(number) for row in value for number in row])


def check_rows(value, lines):
    """Raise BadRows unless value has one (S, T, fraction) for each two lots of one size from 1 on."""
    if not isinstance(value, tuple) or not all([is_row(row, lines) for row in value]):
        raise BadRows(value)
    pairs = [(start, end) for start, end, _ in value]
    if sorted(pairs) != sorted(lot_pairs(lines)[1:]):
        raise BadRows(value)


def is_row(value, lines):
    """Tell whether value is (S, T, fraction), S and T lots of so many lines."""
    if not isinstance(value, tuple) or len(value) != 3:
        return False
    start, end, number = value
    return is_lot(start, lines) and is_lot(end, lines) and is_fraction(number)
