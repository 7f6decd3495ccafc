"""Webs, sums and chances worked out slowly, straight by the words of the document, to test against."""

import random
from fractions import Fraction
from functools import reduce
from itertools import combinations, permutations, product
from math import factorial, gcd, lcm

SORTS = ("strangers", "flockers", "shunners")

TRIPLES = [
    (p, q, r)
    for r in range(1, 26)
    for p, q in product(range(-r, r + 1), repeat=2)
    if p * p + q * q == r * r
]


# Texts of webs.

def random_piece(chosen, lines):
    kind = chosen.choice(("mirror", "even", "turn", "cross") if lines > 1 else ("turn",))
    a, b = chosen.sample(range(lines), 2) if lines > 1 else (0, 0)
    if kind == "mirror":
        return (kind, a, b, *chosen.choice(TRIPLES))
    if kind == "even":
        return (kind, a, b, chosen.choice((1, -1)))
    if kind == "turn":
        return (kind, a, *chosen.choice(TRIPLES))
    return (kind, a, b)


def random_pieces(seed, lines, many):
    chosen = random.Random(f"{seed} {lines} {many}")
    return tuple(random_piece(chosen, lines) for _ in range(many))


def text_of(lines, pieces):
    return "\n".join([f"web {lines}"] + [" ".join(map(str, piece)) for piece in pieces])


def random_text(seed, lines, many):
    return text_of(lines, random_pieces(seed, lines, many))


# Weights as pairs of Fractions.

def parts(weight):
    re, im, bottom = weight
    return Fraction(re, bottom), Fraction(im, bottom)


def as_weight(pair):
    re, im = pair
    bottom = lcm(re.denominator, im.denominator)
    return (int(re * bottom), int(im * bottom), bottom)


def as_fraction(number):
    number = Fraction(number)
    return (number.numerator, number.denominator)


def added(one, other):
    return one[0] + other[0], one[1] + other[1]


def multiplied(one, other):
    return one[0] * other[0] - one[1] * other[1], one[0] * other[1] + one[1] * other[0]


def sized(pair):
    return pair[0] * pair[0] + pair[1] * pair[1]


NOUGHT = (Fraction(0), Fraction(0))
ONE = (Fraction(1), Fraction(0))


# Tables of webs.

def steps(piece, line):
    """Where a piece leads what is at a line: (line, weight) for each way."""
    kind, numbers = piece[0], piece[1:]
    if kind == "turn":
        a, x, y, r = numbers
        return [(line, parts((x, y, r)))] if line == a else [(line, ONE)]
    a, b = numbers[:2]
    if line not in (a, b):
        return [(line, ONE)]
    over = b if line == a else a
    if kind == "cross":
        return [(over, ONE)]
    if kind == "even":
        s = numbers[2]
        return [(line, parts((1, s, 2))), (over, parts((1, -s, 2)))]
    p, q, r = numbers[2:]
    return [(line, parts((p, 0, r))), (over, parts((0, q, r)))]


def all_ways(pieces, line):
    """All ways of one grain from a line, one by one: (end, weight)."""
    if not pieces:
        return [(line, ONE)]
    return [
        (end, multiplied(weight, later))
        for between, weight in steps(pieces[0], line)
        for end, later in all_ways(pieces[1:], between)
    ]


def table_by_ways(lines, pieces):
    rows = [[NOUGHT] * lines for _ in range(lines)]
    for start in range(lines):
        for end, weight in all_ways(pieces, start):
            rows[end][start] = added(rows[end][start], weight)
    return tuple(tuple(as_weight(pair) for pair in row) for row in rows)


def table_by_steps(lines, pieces):
    """The same for many pieces: the grain's weights at all lines, piece by piece."""
    columns = []
    for start in range(lines):
        at = {line: ONE if line == start else NOUGHT for line in range(lines)}
        for piece in pieces:
            moved = dict.fromkeys(at, NOUGHT)
            for line, weight in at.items():
                for end, way in steps(piece, line):
                    moved[end] = added(moved[end], multiplied(weight, way))
            at = moved
        columns.append(at)
    return tuple(tuple(as_weight(columns[start][end]) for start in range(lines)) for end in range(lines))


# Patterns and lots.

def all_patterns(lines, grains):
    found = [row for row in product(range(grains + 1), repeat=lines) if sum(row) == grains]
    return sorted(found, reverse=True)


def lone_patterns(lines, grains):
    return [pattern for pattern in all_patterns(lines, grains) if max(pattern) <= 1]


def lots_of(lines, size):
    return list(combinations(range(lines), size))


def grains_of(pattern):
    """The lines of all grains, one by one."""
    return [line for line, grains in enumerate(pattern) for _ in range(grains)]


def repeats_of(pattern):
    return reduce(lambda found, grains: found * factorial(grains), pattern, 1)


def is_odd(order):
    return sum(one > other for one, other in combinations(order, 2)) % 2 == 1


# Sums over all pairings, one by one, in integers over one bottom.

def pairing_sum(table, starts, ends, signs=False):
    """The sum over all pairings of the grains at these lines, as a pair of Fractions."""
    bottom = lcm(*[weight[2] for row in table for weight in row])
    whole = [[(re * (bottom // own), im * (bottom // own)) for re, im, own in row] for row in table]
    total_re = total_im = 0
    for order in permutations(range(len(ends))):
        re, im = 1, 0
        for start, place in zip(starts, order):
            one, other = whole[ends[place]][start]
            re, im = re * one - im * other, re * other + im * one
        if signs and is_odd(order):
            re, im = -re, -im
        total_re += re
        total_im += im
    bottom = bottom ** len(ends)
    return Fraction(total_re, bottom), Fraction(total_im, bottom)


def slow_together(table, start, end):
    return as_weight(pairing_sum(table, grains_of(start), grains_of(end)))


def slow_apart(table, start, end):
    return as_weight(pairing_sum(table, start, end, signs=True))


def slow_chance(table, sort, start, end):
    starts, ends = grains_of(start), grains_of(end)
    if sort == "strangers":
        sizes = [[as_weight((sized(parts(weight)), Fraction(0))) for weight in row] for row in table]
        found = pairing_sum(sizes, starts, ends)[0] / repeats_of(end)
    elif sort == "flockers":
        found = sized(pairing_sum(table, starts, ends)) / (repeats_of(start) * repeats_of(end))
    else:
        found = sized(pairing_sum(table, starts, ends, signs=True))
    return as_fraction(found)


def slow_chances(table, sort, start):
    lines, grains = len(start), sum(start)
    ends = (lone_patterns if sort == "shunners" else all_patterns)(lines, grains)
    return tuple((end, slow_chance(table, sort, start, end)) for end in ends)


def is_least(weight):
    return weight[2] >= 1 and gcd(*weight) == 1
