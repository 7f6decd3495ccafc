"""Webs told apart by shots of flockers, and what is believed of them behind some."""

from itertools import combinations

from likelights.chances import chances_by_pattern
from likelights.checks import is_between, is_tuple, is_word
from likelights.errors import BadGrains, BadPrices, BadShots, Never
from likelights.patterns import all_patterns, check_pattern_of, check_same_count, is_pattern, patterns
from likelights.ratios import NO_SHARE, WHOLE, divide_fractions, is_share, multiply_fractions, total_of
from likelights.webs import check_webs

LEAST_WEBS = 2
MOST_WEBS = 4
MOST_SENT = 3
MOST_SHOTS = 8


def parting(webs, grains):
    """Return ("plan", rows), a shot that parts each two webs, or ("never", i, j) if none parts these."""
    check_webs(webs, LEAST_WEBS, MOST_WEBS)
    check_sent(grains)
    rows = []
    for one, other in pairs_of(webs):
        shot = first_parting(webs[one], webs[other], grains)
        if shot is None:
            return ("never", one, other)
        rows.append((one, other, shot))
    return ("plan", tuple(rows))


def shows_parting(webs, grains, value):
    """Tell whether value is right as what parting tells, with any shots, or any two webs that none parts."""
    check_webs(webs, LEAST_WEBS, MOST_WEBS)
    check_sent(grains)
    if is_tuple(value, 3):
        return is_word(value[0], "never") and never_part(webs, grains, value[1], value[2])
    if not is_tuple(value, 2) or not is_word(value[0], "plan"):
        return False
    pairs = pairs_of(webs)
    if not is_tuple(value[1], len(pairs)):
        return False
    return all([is_right_row(webs, grains, pair, row) for pair, row in zip(pairs, value[1])])


def fewest(webs, grains):
    """Return the least number of shots after which it is sure which web it is, or None."""
    check_webs(webs, LEAST_WEBS, MOST_WEBS)
    check_sent(grains)
    shots = [[coming(web, shot) for web in webs] for shot in all_shots(webs[0].lines, grains)]
    return fewest_of(shots, tuple(range(len(webs))), {})


def guess(webs, prices, start):
    """Return (share, rows): what to guess behind one shot, and how often that is right."""
    check_webs(webs, LEAST_WEBS, MOST_WEBS)
    check_prices(prices, len(webs))
    check_pattern_of(start, webs[0].lines)
    by_web = [chances_by_pattern(web, "flockers", start) for web in webs]
    rows = []
    shares = []
    for pattern in patterns(webs[0].lines, sum(start)):
        products = [multiply_fractions(price, found[pattern]) for price, found in zip(prices, by_web)]
        first = first_greatest(products)
        if products[first] != NO_SHARE:
            rows.append((pattern, first))
            shares.append(products[first])
    return (total_of(shares), tuple(rows))


def beliefs(webs, prices, shots):
    """Return the share of each web, once all these patterns have come behind these starts."""
    check_webs(webs, LEAST_WEBS, MOST_WEBS)
    check_prices(prices, len(webs))
    check_shots(shots, webs[0].lines)
    products = list(prices)
    for start, pattern in shots:
        by_web = [chances_by_pattern(web, "flockers", start)[pattern] for web in webs]
        products = [multiply_fractions(product, share) for product, share in zip(products, by_web)]
    whole = total_of(products)
    if whole == NO_SHARE:
        raise Never(shots)
    return tuple([divide_fractions(product, whole) for product in products])


def pairs_of(webs):
    """Return the list of all two numbers of webs, ascending."""
    return list(combinations(range(len(webs)), 2))


def all_shots(lines, grains):
    """Return the list of all patterns of 1 to so many grains, those of fewer ones first."""
    return [shot for many in range(1, grains + 1) for shot in all_patterns(lines, many)]


def coming(web, shot):
    """Return the list of the patterns that can come behind a shot."""
    found = chances_by_pattern(web, "flockers", shot)
    return [pattern for pattern, share in found.items() if share != NO_SHARE]


def is_parting(one, other, shot):
    """Tell whether no pattern can come behind the shot by both webs."""
    behind = coming(other, shot)
    return not any([pattern in behind for pattern in coming(one, shot)])


def first_parting(one, other, grains):
    """Return the first shot that parts two webs, or None if there is none."""
    for shot in all_shots(one.lines, grains):
        if is_parting(one, other, shot):
            return shot
    return None


def never_part(webs, grains, one, other):
    """Tell whether these are the numbers of two webs that no shot parts, the lesser one first."""
    last = len(webs) - 1
    if not is_between(one, 0, last) or not is_between(other, 0, last) or one >= other:
        return False
    return first_parting(webs[one], webs[other], grains) is None


def is_right_row(webs, grains, pair, row):
    """Tell whether row is the pair of two webs and a shot that parts them."""
    if not is_tuple(row, 3):
        return False
    one, other, shot = row
    # Asked by kind too: a bool is no number of a web.
    if not is_between(one, pair[0], pair[0]) or not is_between(other, pair[1], pair[1]):
        return False
    if not is_pattern(shot) or len(shot) != webs[0].lines or not 1 <= sum(shot) <= grains:
        return False
    return is_parting(webs[one], webs[other], shot)


def fewest_of(shots, lot, known):
    """Return fewest for those webs that are left; shots has the patterns that can come by each web."""
    if len(lot) == 1:
        return 0
    if lot not in known:
        cases = [fewest_behind(shots, by_web, lot, known) for by_web in shots]
        sure = [many for many in cases if many is not None]
        known[lot] = min(sure) if len(sure) > 0 else None
    return known[lot]


def fewest_behind(shots, by_web, lot, known):
    """Return fewest for these webs if one shot is sent first, or None if it may tell nothing."""
    most = 0
    outcomes = [pattern for number in lot for pattern in by_web[number]]
    for pattern in outcomes:
        still = tuple([number for number in lot if pattern in by_web[number]])
        # Where all webs are left, the next shot is no nearer to an end.
        if still == lot:
            return None
        many = fewest_of(shots, still, known)
        if many is None:
            return None
        most = max(most, many)
    return most + 1


def first_greatest(products):
    """Return the place of the first of the greatest fractions."""
    first = 0
    for place, product in enumerate(products):
        if is_less(products[first], product):
            first = place
    return first


def is_less(one, other):
    """Tell whether one fraction is less than another one."""
    one_top, one_bottom = one
    other_top, other_bottom = other
    return one_top * other_bottom < other_top * one_bottom


def check_sent(value):
    """Raise BadGrains unless value is how many grains a shot may have."""
    if not is_between(value, 1, MOST_SENT):
        raise BadGrains(value)


def check_prices(value, webs):
    """Raise BadPrices unless value is a tuple of fractions above 0, one for each web, that come to 1."""
    if not is_tuple(value, webs) or not all([is_share(price) and price != NO_SHARE for price in value]):
        raise BadPrices(value)
    if total_of(value) != WHOLE:
        raise BadPrices(value)


def check_shots(value, lines):
    """Raise BadShots, then the errors of each shot in turn, unless value is starts and what came of them."""
    if not isinstance(value, tuple) or len(value) > MOST_SHOTS or not all([is_tuple(shot, 2) for shot in value]):
        raise BadShots(value)
    for start, pattern in value:
        check_pattern_of(start, lines)
        check_pattern_of(pattern, lines)
        check_same_count(start, pattern)
