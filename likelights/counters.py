"""Counters: what is seen of grains where some lines are counted, alone or several together."""

from likelights.chances import chances_by_pattern, check_grains_of, check_sort
from likelights.checks import are_integers, is_tuple
from likelights.errors import BadCounter, BadCounts, BadRows, BadSeen, BadShares
from likelights.patterns import MOST_GRAINS, MOST_LINES, check_lines, check_pattern_of, is_lot, lone_pattern
from likelights.ratios import (
    NO_SHARE,
    WHOLE,
    add_fractions,
    contrary,
    is_share,
    multiply_fractions,
    total_of,
)
from likelights.tables import all_lots, lots_left, signed


def counted(web, sort, start, counter):
    """Return (counts, chance) for all counts of at most as many grains as start has."""
    check_seen_grains(web, sort, start, counter)
    found = chances_by_counts(web, sort, start, counter)
    return all_told(found, len(counter), sum(start))


def whether(web, sort, start, counter):
    """Return (marks, chance) for all marks that tell at which lots something comes out."""
    check_seen_grains(web, sort, start, counter)
    found = {}
    for counts, share in chances_by_counts(web, sort, start, counter).items():
        marks = tuple([1 if grains > 0 else 0 for grains in counts])
        found[marks] = add_fractions(found.get(marks, NO_SHARE), share)
    return tuple([(marks, found.get(marks, NO_SHARE)) for marks in all_marks(len(counter))])


def seen_table(web, counter):
    """Return (lot, counts, chance) for shunners that start one at each line of each lot."""
    check_counter(counter, web.lines)
    return tuple([
        (lot, counts, share)
        for lot in all_lots(web.lines)
        for counts, share in counted(web, "shunners", lone_pattern(lot, web.lines), counter)
    ])


def by_seen(lines, counter, seen, start, counts):
    """Return the chance of counts for flockers, worked out from what is seen of shunners."""
    check_lines(lines)
    check_counter(counter, lines)
    check_seen(seen, lines, counter)
    check_pattern_of(start, lines)
    check_counts(counts, counter)
    # Rows of chance 0 add nothing, and most rows of a web have it.
    rows = {lot: [] for lot in all_lots(lines)}
    for lot, some, number in seen:
        if number != NO_SHARE:
            rows[lot].append((some, number))
    return by_fewer(rows, {}, start, counts)


def missed(rows, shares):
    """Return (counts, chance) if each grain at the lot of a place is missed with the share of this place."""
    check_rows(rows)
    lots = len(rows[0][0])
    check_shares(shares, lots)
    found = {counts: share for counts, share in rows}
    for place, share in enumerate(shares):
        found = missed_at(found, place, share)
    return all_told(found, lots, max([sum(counts) for counts, _ in rows]))


def chances_by_counts(web, sort, start, counter):
    """Return a dict with the chance of all counts that some pattern has."""
    found = {}
    for pattern, share in chances_by_pattern(web, sort, start).items():
        counts = tuple([sum([pattern[line] for line in lot]) for lot in counter])
        found[counts] = add_fractions(found.get(counts, NO_SHARE), share)
    return found


def all_told(found, lots, most):
    """Return the tuple of (counts, chance) for all counts that together are most at most, as they stand."""
    return tuple([(counts, found.get(counts, NO_SHARE)) for counts in all_counts(lots, most)])


def all_counts(lots, most):
    """Return the list of all tuples of so many numbers that together are most at most, the greatest first."""
    if lots == 0:
        return [()]
    return [(first, *others) for first in range(most, -1, -1) for others in all_counts(lots - 1, most - first)]


def all_marks(lots):
    """Return the list of all tuples of so many 0 and 1, the greatest first."""
    found = [()]
    for _ in range(lots):
        found = [(*ahead, mark) for ahead in found for mark in (1, 0)]
    return found


def by_fewer(rows, known, start, counts):
    """Return by_seen's number, from those of fewer grains; known keeps what was worked out."""
    # Each step takes as many grains as lines, and no more counts than that.
    if sum(counts) > sum(start):
        return NO_SHARE
    if sum(start) == 0:
        return WHOLE
    if (start, counts) not in known:
        known[(start, counts)] = total_of([
            signed(multiply_fractions(number, by_fewer(rows, known, start_left, counts_left(counts, some))), len(lot))
            for lot, start_left in lots_left(start)
            for some, number in rows[lot]
            if all([one <= most for one, most in zip(some, counts)])
        ])
    return known[(start, counts)]


def counts_left(counts, some):
    """Return the counts less some of them."""
    return tuple([one - other for one, other in zip(counts, some)])


def missed_at(found, place, share):
    """Return the dict of chances behind the lot of one place, where grains are missed."""
    thinned = {}
    for counts, ahead in found.items():
        for many, part in enumerate(seen_of(counts[place], share)):
            fewer = counts[:place] + (many,) + counts[place + 1:]
            thinned[fewer] = add_fractions(thinned.get(fewer, NO_SHARE), multiply_fractions(ahead, part))
    return thinned


def seen_of(grains, share):
    """Return the list of chances that 0, 1, .. of so many grains are seen, each missed with the share."""
    seen = add_fractions(WHOLE, contrary(share))
    found = [WHOLE]
    for _ in range(grains):
        one_missed = [multiply_fractions(part, share) for part in found] + [NO_SHARE]
        one_seen = [NO_SHARE] + [multiply_fractions(part, seen) for part in found]
        found = [add_fractions(one, other) for one, other in zip(one_missed, one_seen)]
    return found


def check_seen_grains(web, sort, start, counter):
    """Raise what counted raises unless such grains may start and be counted so."""
    check_sort(sort)
    check_grains_of(sort, start, web.lines)
    check_counter(counter, web.lines)


def check_counter(value, lines):
    """Raise BadCounter unless value is a counter of so many lines."""
    if not isinstance(value, tuple) or not all([is_lot(lot, lines) and len(lot) > 0 for lot in value]):
        raise BadCounter(value)
    taken = [line for lot in value for line in lot]
    if len(set(taken)) != len(taken):
        raise BadCounter(value)


def are_counts(value):
    """Tell whether value is a tuple of integers from 0 on."""
    return are_integers(value) and all([grains >= 0 for grains in value])


def is_counts_of(value, counter):
    """Tell whether value is counts beside the counter."""
    return are_counts(value) and len(value) == len(counter)


def check_counts(value, counter):
    """Raise BadCounts unless value is counts beside the counter."""
    if not is_counts_of(value, counter):
        raise BadCounts(value)


def check_seen(value, lines, counter):
    """Raise BadSeen unless value may be a seen_table of so many lines and this counter."""
    if not isinstance(value, tuple) or not all([is_seen_row(row, lines) for row in value]):
        raise BadSeen(value)
    wanted = [(lot, counts) for lot in all_lots(lines) for counts in all_counts(len(counter), len(lot))]
    if [(lot, counts) for lot, counts, _ in value] != wanted:
        raise BadSeen(value)
    for lot in all_lots(lines):
        if total_of([number for other, _, number in value if other == lot]) != WHOLE:
            raise BadSeen(value)


def is_seen_row(value, lines):
    """Tell whether value is (lot, counts, chance), for some counts."""
    return is_tuple(value, 3) and is_lot(value[0], lines) and are_counts(value[1]) and is_share(value[2])


def check_rows(value):
    """Raise BadRows unless value is a tuple of chances of some counts, as missed takes it."""
    if not isinstance(value, tuple) or len(value) == 0 or not all([is_row(row) for row in value]):
        raise BadRows(value)
    told = [counts for counts, _ in value]
    if not all([len(counts) == len(told[0]) for counts in told]) or len(set(told)) != len(told):
        raise BadRows(value)
    if total_of([share for _, share in value]) != WHOLE:
        raise BadRows(value)


def is_row(value):
    """Tell whether value is (counts, chance), counts of up to four lots and up to six grains."""
    if not is_tuple(value, 2) or not are_counts(value[0]) or not is_share(value[1]):
        return False
    return len(value[0]) <= MOST_LINES and sum(value[0]) <= MOST_GRAINS


def check_shares(value, lots):
    """Raise BadShares unless value is a tuple of so many fractions from 0 to 1."""
    if not is_tuple(value, lots) or not all([is_share(share) for share in value]):
        raise BadShares(value)
