"""The pieces of webs: ("mirror", A, B, P, Q, R), ("even", A, B, S), ("turn", A, X, Y, R), ("cross", A, B)."""

from likelights.checks import is_between, read_integer
from likelights.weights import NOUGHT, ONE, add_weights, least_weight, multiply_weights

GREATEST_RADIUS = 25

# How many integers stand behind the word.
NUMBERS = {"mirror": 5, "even": 3, "turn": 4, "cross": 2}

# Where the number stands whose sign is that of i; a cross has none.
SIGNS = {"mirror": 4, "even": 3, "turn": 3}


def read_piece(text, lines):
    """Return the piece that one line of a text is, or None if it is none of a web of so many lines."""
    words = text.split(" ")
    kind = words[0]
    if kind not in NUMBERS or len(words) != NUMBERS[kind] + 1:
        return None
    numbers = [read_integer(word) for word in words[1:]]
    if None in numbers:
        return None
    piece = (kind, *numbers)
    return piece if has_lines(piece, lines) and has_weights(piece) else None


def piece_text(piece):
    """Return the line of a text that a piece is."""
    return " ".join([str(part) for part in piece])


def lines_of(piece):
    """Return the tuple of the one line, or the two, at which a piece stands."""
    return piece[1:2] if piece[0] == "turn" else piece[1:3]


def has_lines(piece, lines):
    """Tell whether what a piece stands at are lines of so many, and unlike ones."""
    ends = lines_of(piece)
    return all([0 <= line < lines for line in ends]) and len(set(ends)) == len(ends)


def has_weights(piece):
    """Tell whether the numbers behind the lines of a piece are as they must be."""
    kind = piece[0]
    if kind == "cross":
        return True
    if kind == "even":
        return piece[3] == 1 or piece[3] == -1
    one, other, radius = piece[-3:]
    return is_between(radius, 1, GREATEST_RADIUS) and one * one + other * other == radius * radius


def mirrored_piece(piece):
    """Return the piece with i exchanged for -i in its weights."""
    if piece[0] not in SIGNS:
        return piece
    at = SIGNS[piece[0]]
    return piece[:at] + (-piece[at],) + piece[at + 1:]


def moved_piece(piece, lines):
    """Return the piece with lines[k] in the place of each line k."""
    ends = lines_of(piece)
    return piece[:1] + tuple([lines[line] for line in ends]) + piece[1 + len(ends):]


def weights_of(piece):
    """Return the weight with which a grain stays at its line, and that with which it goes over."""
    kind = piece[0]
    if kind == "cross":
        return (NOUGHT, ONE)
    if kind == "even":
        sign = piece[3]
        return ((1, sign, 2), (1, -sign, 2))
    one, other, radius = piece[-3:]
    if kind == "turn":
        return (least_weight(one, other, radius), NOUGHT)
    return (least_weight(one, 0, radius), least_weight(0, other, radius))


def row_behind(rows, end, piece):
    """Return the row of one end of a table, once a piece stands behind all others."""
    ends = lines_of(piece)
    if end not in ends:
        return rows[end]
    stay, over = weights_of(piece)
    found = [multiply_weights(stay, weight) for weight in rows[end]]
    for line in ends:
        if line != end:
            crossing = [multiply_weights(over, weight) for weight in rows[line]]
            found = [add_weights(one, other) for one, other in zip(found, crossing)]
    return tuple(found)


def table_through(lines, pieces):
    """Return the table of a web of so many lines and these pieces: a row for each end."""
    rows = tuple([tuple([ONE if start == end else NOUGHT for start in range(lines)]) for end in range(lines)])
    for piece in pieces:
        rows = tuple([row_behind(rows, line, piece) for line in range(lines)])
    return rows
