"""What never comes, where starts can be changed about without a change that anybody could see."""

from itertools import permutations

from likelights.chances import chances_by_pattern, check_grains_of, check_sort
from likelights.checks import are_integers, is_tuple, is_word
from likelights.errors import BadChange, NotKept
from likelights.patterns import check_pattern_of, check_same_count, patterns
from likelights.ratios import NO_SHARE
from likelights.sums import check_lot
from likelights.weights import ONE, is_weight, multiply_weights, ratio_of


def changes(web):
    """Return the ascending tuple of all changes (lines, turns) of a web."""
    found = []
    for lines in permutations(range(web.lines)):
        turns = [ratio_of(row, [row[line] for line in lines]) for row in web.table]
        if None not in turns:
            found.append((lines, tuple(turns)))
    return tuple(found)


def barred(web, change, start):
    """Return all patterns that a change, which leaves start as it is, keeps from coming."""
    check_change(change, web)
    check_pattern_of(start, web.lines)
    lines, turns = change
    if not is_kept(start, lines):
        raise NotKept(start)
    return tuple([pattern for pattern in patterns(web.lines, sum(start)) if is_barred(pattern, turns)])


def never(web, start, end):
    """Return ("comes", chance), ("changed", lines) or ("nought",): whether flockers come, or why they never do."""
    check_pair(web, start, end)
    share = chances_by_pattern(web, "flockers", start)[end]
    if share != NO_SHARE:
        return ("comes", share)
    reasons = lines_that_bar(web, start, end)
    if len(reasons) > 0:
        return ("changed", reasons[0])
    return ("nought",)


def shows_never(web, start, end, value):
    """Tell whether value is right as what never tells, with the lines of any change that bars the end."""
    told = never(web, start, end)
    if not is_tuple(value, len(told)) or not is_word(value[0], told[0]):
        return False
    if told[0] == "changed":
        return are_integers(value[1]) and value[1] in lines_that_bar(web, start, end)
    return told[0] == "nought" or (are_integers(value[1]) and value[1] == told[1])


def surely(web, sort, start, lot):
    """Return the least and the greatest number of grains that can come out at the lines of a lot."""
    check_sort(sort)
    check_grains_of(sort, start, web.lines)
    check_lot(lot, web.lines)
    found = [
        sum([pattern[line] for line in lot])
        for pattern, share in chances_by_pattern(web, sort, start).items()
        if share != NO_SHARE
    ]
    return (min(found), max(found))


def lines_that_bar(web, start, end):
    """Return the list of lines of all changes that leave start as it is and bar the end, as changes stand."""
    return [lines for lines, turns in changes(web) if is_kept(start, lines) and is_barred(end, turns)]


def is_kept(start, lines):
    """Tell whether a change of lines leaves a start as it is."""
    return all([start[line] == grains for line, grains in zip(lines, start)])


def is_barred(end, turns):
    """Tell whether the product of the turns, each as often as end has grains at its line, is not 1."""
    product = ONE
    for turn, grains in zip(turns, end):
        for _ in range(grains):
            product = multiply_weights(product, turn)
    return product != ONE


def check_change(value, web):
    """Raise BadChange unless value is one of the changes of the web."""
    if not is_tuple(value, 2) or not are_integers(value[0]) or not isinstance(value[1], tuple):
        raise BadChange(value)
    if not all([is_weight(turn) for turn in value[1]]) or value not in changes(web):
        raise BadChange(value)


def check_pair(web, start, end):
    """Raise BadPattern, TooMany, OtherCount unless both are patterns of as many grains."""
    check_pattern_of(start, web.lines)
    check_pattern_of(end, web.lines)
    check_same_count(start, end)
