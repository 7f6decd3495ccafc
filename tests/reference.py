"""Webs, sums and chances worked out slowly, straight by the words of the document, to test against."""

import random
from fractions import Fraction
from functools import reduce
from itertools import combinations, permutations, product
from math import factorial, gcd, lcm

SORTS = ("strangers", "flockers", "shunners")

TRIPLES = [
    (p, q, r)
    for r in range(1, 26)
    for p, q in product(range(-r, r + 1), repeat=2)
    if p * p + q * q == r * r
]


# Texts of webs.

def random_piece(chosen, lines):
    kind = chosen.choice(("mirror", "even", "turn", "cross") if lines > 1 else ("turn",))
    a, b = chosen.sample(range(lines), 2) if lines > 1 else (0, 0)
    if kind == "mirror":
        return (kind, a, b, *chosen.choice(TRIPLES))
    if kind == "even":
        return (kind, a, b, chosen.choice((1, -1)))
    if kind == "turn":
        return (kind, a, *chosen.choice(TRIPLES))
    return (kind, a, b)


def random_pieces(seed, lines, many):
    chosen = random.Random(f"{seed} {lines} {many}")
    return tuple(random_piece(chosen, lines) for _ in range(many))


def text_of(lines, pieces):
    return "\n".join([f"web {lines}"] + [" ".join(map(str, piece)) for piece in pieces])


def random_text(seed, lines, many):
    return text_of(lines, random_pieces(seed, lines, many))


def lively_text(seed, lines, many):
    """A text whose pieces, if there are two lines or more, mostly lead grains over from line to line."""
    chosen = random.Random(f"lively {seed} {lines} {many}")
    rows = [f"web {lines}"]
    for _ in range(many):
        a, b = chosen.sample(range(lines), 2) if lines > 1 else (0, 0)
        turn = "turn {} {} {} {}".format(a, *chosen.choice(((3, 4, 5), (0, 1, 1), (-5, 12, 13), (0, -1, 1))))
        rows.append(turn if lines == 1 else chosen.choice((
            f"even {a} {b} {chosen.choice((1, -1))}", f"mirror {a} {b} 3 4 5", f"mirror {a} {b} -12 5 13", turn,
        )))
    return "\n".join(rows)


# Weights as pairs of Fractions.

def parts(weight):
    re, im, bottom = weight
    return Fraction(re, bottom), Fraction(im, bottom)


def as_weight(pair):
    re, im = pair
    bottom = lcm(re.denominator, im.denominator)
    return (int(re * bottom), int(im * bottom), bottom)


def as_fraction(number):
    number = Fraction(number)
    return (number.numerator, number.denominator)


def added(one, other):
    return one[0] + other[0], one[1] + other[1]


def multiplied(one, other):
    return one[0] * other[0] - one[1] * other[1], one[0] * other[1] + one[1] * other[0]


def sized(pair):
    return pair[0] * pair[0] + pair[1] * pair[1]


NOUGHT = (Fraction(0), Fraction(0))
ONE = (Fraction(1), Fraction(0))


# Tables of webs.

def steps(piece, line):
    """Where a piece leads what is at a line: (line, weight) for each way."""
    kind, numbers = piece[0], piece[1:]
    if kind == "turn":
        a, x, y, r = numbers
        return [(line, parts((x, y, r)))] if line == a else [(line, ONE)]
    a, b = numbers[:2]
    if line not in (a, b):
        return [(line, ONE)]
    over = b if line == a else a
    if kind == "cross":
        return [(over, ONE)]
    if kind == "even":
        s = numbers[2]
        return [(line, parts((1, s, 2))), (over, parts((1, -s, 2)))]
    p, q, r = numbers[2:]
    return [(line, parts((p, 0, r))), (over, parts((0, q, r)))]


def all_ways(pieces, line):
    """All ways of one grain from a line, one by one: (end, weight)."""
    if not pieces:
        return [(line, ONE)]
    return [
        (end, multiplied(weight, later))
        for between, weight in steps(pieces[0], line)
        for end, later in all_ways(pieces[1:], between)
    ]


def table_by_ways(lines, pieces):
    rows = [[NOUGHT] * lines for _ in range(lines)]
    for start in range(lines):
        for end, weight in all_ways(pieces, start):
            rows[end][start] = added(rows[end][start], weight)
    return tuple(tuple(as_weight(pair) for pair in row) for row in rows)


def table_by_steps(lines, pieces):
    """The same for many pieces: the grain's weights at all lines, piece by piece."""
    columns = []
    for start in range(lines):
        at = {line: ONE if line == start else NOUGHT for line in range(lines)}
        for piece in pieces:
            moved = dict.fromkeys(at, NOUGHT)
            for line, weight in at.items():
                for end, way in steps(piece, line):
                    moved[end] = added(moved[end], multiplied(weight, way))
            at = moved
        columns.append(at)
    return tuple(tuple(as_weight(columns[start][end]) for start in range(lines)) for end in range(lines))


# Patterns and lots.

def all_patterns(lines, grains):
    found = [row for row in product(range(grains + 1), repeat=lines) if sum(row) == grains]
    return sorted(found, reverse=True)


def lone_patterns(lines, grains):
    return [pattern for pattern in all_patterns(lines, grains) if max(pattern) <= 1]


def lots_of(lines, size):
    return list(combinations(range(lines), size))


def grains_of(pattern):
    """The lines of all grains, one by one."""
    return [line for line, grains in enumerate(pattern) for _ in range(grains)]


def repeats_of(pattern):
    return reduce(lambda found, grains: found * factorial(grains), pattern, 1)


def is_odd(order):
    return sum(one > other for one, other in combinations(order, 2)) % 2 == 1


# Sums over all pairings, one by one, in integers over one bottom.

def pairing_sum(table, starts, ends, signs=False):
    """The sum over all pairings of the grains at these lines, as a pair of Fractions."""
    bottom = lcm(*[weight[2] for row in table for weight in row])
    whole = [[(re * (bottom // own), im * (bottom // own)) for re, im, own in row] for row in table]
    total_re = total_im = 0
    for order in permutations(range(len(ends))):
        re, im = 1, 0
        for start, place in zip(starts, order):
            one, other = whole[ends[place]][start]
            re, im = re * one - im * other, re * other + im * one
        if signs and is_odd(order):
            re, im = -re, -im
        total_re += re
        total_im += im
    bottom = bottom ** len(ends)
    return Fraction(total_re, bottom), Fraction(total_im, bottom)


def slow_together(table, start, end):
    return as_weight(pairing_sum(table, grains_of(start), grains_of(end)))


def slow_apart(table, start, end):
    return as_weight(pairing_sum(table, start, end, signs=True))


def slow_chance(table, sort, start, end):
    starts, ends = grains_of(start), grains_of(end)
    if sort == "strangers":
        sizes = [[as_weight((sized(parts(weight)), Fraction(0))) for weight in row] for row in table]
        found = pairing_sum(sizes, starts, ends)[0] / repeats_of(end)
    elif sort == "flockers":
        found = sized(pairing_sum(table, starts, ends)) / (repeats_of(start) * repeats_of(end))
    else:
        found = sized(pairing_sum(table, starts, ends, signs=True))
    return as_fraction(found)


def slow_chances(table, sort, start):
    lines, grains = len(start), sum(start)
    ends = (lone_patterns if sort == "shunners" else all_patterns)(lines, grains)
    return tuple((end, slow_chance(table, sort, start, end)) for end in ends)


def is_least(weight):
    return weight[2] >= 1 and gcd(*weight) == 1


# Counters.

def all_counters(lines):
    """All counters of so many lines, lots in any sequence, () too."""
    found = set()
    for marks in product(range(lines + 1), repeat=lines):
        lots = [tuple(line for line in range(lines) if marks[line] == mark) for mark in range(1, lines + 1)]
        found.update(permutations([lot for lot in lots if lot]))
    return sorted(found)


def some_counters(seed, lines, many):
    """() and each line by itself, and some others."""
    chosen = random.Random(f"counters {seed} {lines}")
    each = tuple((line,) for line in range(lines))
    others = all_counters(lines)
    return [(), each] + chosen.sample(others, min(many, len(others)))


def counts_of(pattern, counter):
    return tuple(sum(pattern[line] for line in lot) for lot in counter)


def slow_counts(lots, most):
    return sorted([row for row in product(range(most + 1), repeat=lots) if sum(row) <= most], reverse=True)


def slow_counted(table, sort, start, counter):
    every = slow_chances(table, sort, start)
    return tuple(
        (counts, as_fraction(sum(Fraction(*share) for end, share in every if counts_of(end, counter) == counts)))
        for counts in slow_counts(len(counter), sum(start))
    )


def slow_whether(table, sort, start, counter):
    every = slow_chances(table, sort, start)
    return tuple(
        (marks, as_fraction(sum(
            Fraction(*share) for end, share in every
            if tuple(int(grains > 0) for grains in counts_of(end, counter)) == marks
        )))
        for marks in sorted(product((0, 1), repeat=len(counter)), reverse=True)
    )


# Programs, as lists of blocks (name, pieces, step), a step being ("end", word) or ("look", line, leads, otherwise).

def program_text(lines, blocks):
    rows = [f"program {lines}"]
    for name, pieces, step in blocks:
        rows.append(f"block {name}")
        rows += [" ".join(map(str, piece)) for piece in pieces]
        if step[0] == "end":
            rows.append(f"end {step[1]}")
        else:
            rows.append(f"look {step[1]}")
            rows += [f"on {grains} {lead}" for grains, lead in step[2]]
            rows.append(f"else {step[3]}")
    return "\n".join(rows)


def random_blocks(seed, lines, many, most=3):
    """Blocks that lead on to any later ones; the last one ends."""
    chosen = random.Random(f"blocks {seed} {lines} {many}")
    names = chosen.sample(("a", "b", "c", "zz", "look", "block", "on", "end", "else", "mirror", "abcdefgh", "z"), many)
    blocks = []
    for at, name in enumerate(names):
        pieces = tuple(lively_piece(chosen, lines) for _ in range(chosen.randrange(most + 1)))
        later = names[at + 1:]
        if not later or at > 0 and chosen.random() < 0.2:
            step = ("end", chosen.choice(("done", "some", "a", "none")))
        else:
            numbers = sorted(chosen.sample(range(7), chosen.randrange(4)))
            leads = [(grains, chosen.choice(later)) for grains in numbers]
            step = ("look", chosen.randrange(lines), leads, chosen.choice(later))
        blocks.append((name, pieces, step))
    return blocks


def lively_piece(chosen, lines):
    row = lively_text(chosen.random(), lines, 1).split("\n")[1]
    kind, *numbers = row.split(" ")
    return (kind, *map(int, numbers))


def brought_in_line(letters, sort):
    """Letters in the sequence of their lines, and the sign that this brings; 0 if the product is 0."""
    if sort == "flockers":
        return tuple(sorted(letters)), 1
    if len(set(letters)) < len(letters):
        return (), 0
    return tuple(sorted(letters)), -1 if is_odd(letters) else 1


def through_piece(products, piece, sort):
    """Put in the place of each letter the sum of the letters to which the piece leads, one by one."""
    found = {}
    for letters, weight in products.items():
        grown = [((), weight)]
        for letter in letters:
            grown = [
                (row + (end,), multiplied(part, way)) for row, part in grown for end, way in steps(piece, letter)
            ]
        for row, part in grown:
            row, sign = brought_in_line(row, sort)
            if sign:
                old = found.get(row, NOUGHT)
                found[row] = added(old, (sign * part[0], sign * part[1]))
    return found


def counted_at(products, line, grains, sort):
    found = {}
    for letters, weight in products.items():
        if letters.count(line) == grains:
            sign = -1 if sort == "shunners" and grains and letters.index(line) % 2 else 1
            rest = tuple(letter for letter in letters if letter != line)
            found[rest] = (sign * weight[0], sign * weight[1])
    return found


def slow_ways(lines, blocks, sort, start):
    """All ways that come: (counts, word, {pattern left: chance})."""
    tree = {name: (pieces, step) for name, pieces, step in blocks}
    found = []

    def go_on(name, counts, products):
        pieces, step = tree[name]
        for piece in pieces:
            products = through_piece(products, piece, sort)
        if step[0] == "end":
            shares = {}
            for letters, weight in products.items():
                pattern = tuple(letters.count(line) for line in range(lines))
                share = sized(weight) * repeats_of(pattern) * repeats_of(counts) / repeats_of(start)
                if share:
                    shares[pattern] = share
            if shares:
                found.append((counts, step[1], shares))
            return
        for grains in range(sum(start) + 1):
            behind = counted_at(products, step[1], grains, sort)
            if any(sized(weight) for weight in behind.values()):
                go_on(dict(step[2]).get(grains, step[3]), counts + (grains,), behind)

    go_on(blocks[0][0], (), {tuple(grains_of(start)): ONE})
    return sorted(found, key=lambda row: row[0])
