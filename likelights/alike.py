"""Webs that look alike: to all companies, between any webs, and beside further lines."""

from likelights.checks import is_between, is_tuple, is_word
from likelights.counters import chances_by_counts, check_counter, is_counts_of, seen_table
from likelights.errors import BadWeb, BadWord, Wide
from likelights.patterns import MOST_LINES, is_lot, lone_pattern
from likelights.ratios import NO_SHARE, is_share
from likelights.webs import Web, beside, check_same_lines, check_webs, web_of
from likelights.weights import is_weight, ratio_of, size

WORDS = ("alike", "between", "anywhere")
MOST_WEBS = 5


def alike(one, other, counter):
    """Return ("alike",), or ("unlike", lot, counts, chance, far) of the least lot that shows it."""
    check_same_lines(one, other)
    check_counter(counter, one.lines)
    row = first_unlike(one, other, counter)
    if row is None:
        return ("alike",)
    lot, counts, _ = row
    return ("unlike", lot, counts, *both_chances(one, other, counter, lot, counts))


def shows_alike(one, other, counter, value):
    """Tell whether value is right as what alike tells of these webs and this counter."""
    check_same_lines(one, other)
    check_counter(counter, one.lines)
    row = first_unlike(one, other, counter)
    if row is None:
        return is_tuple(value, 1) and is_word(value[0], "alike")
    if not is_tuple(value, 5) or not is_word(value[0], "unlike"):
        return False
    _, lot, counts, near, far = value
    if not is_lot(lot, one.lines) or not is_counts_of(counts, counter):
        return False
    # Lots of this size are the least that show anything, but not all of them do.
    if len(lot) != len(row[0]) or not is_share(near) or not is_share(far):
        return False
    return near != far and both_chances(one, other, counter, lot, counts) == (near, far)


def between(one, other):
    """Return ("turn", weight), or ("between", ahead, behind, start, end) that shows the webs unlike."""
    check_same_lines(one, other)
    turn = turn_between(one, other)
    if turn is not None:
        return ("turn", turn)
    return ("between", *first_parted(one, other))


def shows_between(one, other, value):
    """Tell whether value is right as what between tells of these webs."""
    check_same_lines(one, other)
    if is_tuple(value, 2):
        return is_word(value[0], "turn") and is_weight(value[1]) and turn_between(one, other) == value[1]
    return is_parted(one, other, "between", value)


def anywhere(one, other):
    """Return ("same",), or ("anywhere", ahead, behind, start, end) with one line more that goes past."""
    check_same_lines(one, other)
    check_narrow(one)
    if one.table == other.table:
        return ("same",)
    return ("anywhere", *first_parted(one_line_more(one), one_line_more(other)))


def shows_anywhere(one, other, value):
    """Tell whether value is right as what anywhere tells of these webs."""
    check_same_lines(one, other)
    check_narrow(one)
    if is_tuple(value, 1):
        return is_word(value[0], "same") and one.table == other.table
    return is_parted(one_line_more(one), one_line_more(other), "anywhere", value)


def kinds_of(webs, word, counter):
    """Return the tuple of lots of those webs that are alike, in the way that the word tells."""
    check_webs(webs, 1, MOST_WEBS)
    check_word(word)
    check_counter(counter, webs[0].lines)
    if word == "anywhere":
        check_narrow(webs[0])
    # Each likeness goes on from web to web, so the first one stands for its lot.
    firsts = []
    for web in webs:
        like = [are_like(other, web, word, counter) for other in webs]
        firsts.append(like.index(True))
    numbers = list(range(len(webs)))
    return tuple([
        tuple([number for number in numbers if firsts[number] == first])
        for first in numbers
        if firsts[first] == first
    ])


def are_like(one, other, word, counter):
    """Tell whether two webs of the same lines are alike in the way that the word tells."""
    if word == "alike":
        return first_unlike(one, other, counter) is None
    if word == "between":
        return turn_between(one, other) is not None
    return one.table == other.table


def first_unlike(one, other, counter):
    """Return the first row of one's seen_table that other's has not, or None if there is none."""
    for near, far in zip(seen_table(one, counter), seen_table(other, counter)):
        if near != far:
            return near
    return None


def both_chances(one, other, counter, lot, counts):
    """Return the chances of counts by both webs, for flockers, one at each line of the lot."""
    start = lone_pattern(lot, one.lines)
    near = chances_by_counts(one, "flockers", start, counter)
    far = chances_by_counts(other, "flockers", start, counter)
    return (near.get(counts, NO_SHARE), far.get(counts, NO_SHARE))


def turn_between(one, other):
    """Return the weight that, times one's table, is other's, or None if there is none."""
    return ratio_of(
        [weight for row in one.table for weight in row],
        [weight for row in other.table for weight in row],
    )


def first_parted(one, other):
    """Return (ahead, behind, start, end), two texts and two lines that show that no turn is between the webs."""
    for ahead in webs_ahead(one.lines):
        for behind in webs_behind(one.lines):
            found = first_unlike_lines(ahead * one * behind, ahead * other * behind)
            if found is not None:
                return (ahead.text, behind.text, *found)
    return None


def webs_ahead(lines):
    """Return webs behind which single grains are, for lines e and f, at e, (3 e + 4 i f) / 5, (3 e + 4 f) / 5."""
    return [web_of(lines, pieces) for pieces in beginnings(lines)]


def webs_behind(lines):
    """Return the webs with the same sums of lines at their ends."""
    return [web_of(lines, pieces[::-1]) for pieces in beginnings(lines)]


def beginnings(lines):
    """Return lists of pieces, behind which the sizes of all sums of lines tell all there is."""
    found = [[]]
    for line in range(lines):
        for other in range(line + 1, lines):
            mirror = ("mirror", line, other, 3, 4, 5)
            found.append([mirror])
            found.append([mirror, ("turn", other, 0, -1, 1)])
    return found


def first_unlike_lines(one, other):
    """Return the first (start, end) between which a single grain has unlike chances, or None."""
    for start in range(one.lines):
        for end in range(one.lines):
            if size(one.weight(start, end)) != size(other.weight(start, end)):
                return (start, end)
    return None


def is_parted(one, other, word, value):
    """Tell whether value is the word, texts ahead and behind, and lines that show both webs unlike."""
    if not is_tuple(value, 5) or not is_word(value[0], word):
        return False
    ahead = web_or_none(value[1], one.lines)
    behind = web_or_none(value[2], one.lines)
    start, end = value[3:]
    if ahead is None or behind is None or not are_lines(start, end, one.lines):
        return False
    near = ahead * one * behind
    far = ahead * other * behind
    return size(near.weight(start, end)) != size(far.weight(start, end))


def are_lines(start, end, lines):
    """Tell whether both are lines of so many."""
    return is_between(start, 0, lines - 1) and is_between(end, 0, lines - 1)


def web_or_none(text, lines):
    """Return the Web of a text, or None if it is none of so many lines."""
    try:
        web = Web(text)
    except BadWeb:
        return None
    return web if web.lines == lines else None


def one_line_more(web):
    """Return the web with a further line that goes past it."""
    return beside(web, Web("web 1"))


def check_narrow(web):
    """Raise Wide unless one line more has room beside the web."""
    if web.lines == MOST_LINES:
        raise Wide(web.lines + 1)


def check_word(value):
    """Raise BadWord unless value names one of the three likenesses."""
    if not isinstance(value, str) or value not in WORDS:
        raise BadWord(value)
