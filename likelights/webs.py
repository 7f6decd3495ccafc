"""Webs: up to four lines and the pieces on them, read from texts and put together."""

from likelights.checks import are_integers, is_between
from likelights.errors import BadLine, BadMove, BadWeb, BadWebs, OtherLines, Wide
from likelights.patterns import MOST_LINES
from likelights.pieces import lines_of, mirrored_piece, moved_piece, piece_text, read_piece, table_through

HEADS = ("web 1", "web 2", "web 3", "web 4")


class Web:
    """Pieces, one behind the other, on 1 to 4 lines."""

    def __init__(self, text):
        lines, pieces = read_web(text)
        self.text = text
        self.lines = lines
        self.pieces = pieces
        self.table = table_through(lines, pieces)

    def weight(self, start, end):
        """Return the weight with which a grain from one line comes to another one."""
        check_line(start, self.lines)
        check_line(end, self.lines)
        return self.table[end][start]

    def __len__(self):
        return len(self.pieces)

    def __eq__(self, other):
        return isinstance(other, Web) and self.text == other.text

    def __mul__(self, other):
        if not isinstance(other, Web):
            return NotImplemented
        check_same_lines(self, other)
        return web_of(self.lines, self.pieces + other.pieces)


def beside(one, other):
    """Return the web with the lines of one, then those of other, and the pieces of both."""
    lines = one.lines + other.lines
    if lines > MOST_LINES:
        raise Wide(lines)
    later = list(range(one.lines, lines))
    return web_of(lines, one.pieces + tuple([moved_piece(piece, later) for piece in other.pieces]))


def back(web):
    """Return the web that leaves nothing if it stands behind the web, or ahead of it."""
    return web_of(web.lines, [mirrored_piece(piece) for piece in web.pieces[::-1]])


def mirrored(web):
    """Return the web with i exchanged for -i in its table."""
    return web_of(web.lines, [mirrored_piece(piece) for piece in web.pieces])


def moved(web, lines):
    """Return the web in which each line k is lines[k]."""
    if not are_integers(lines) or sorted(lines) != list(range(web.lines)):
        raise BadMove(lines)
    return web_of(web.lines, [moved_piece(piece, lines) for piece in web.pieces])


def plain(web):
    """Return the web with the least sequence that comes of changing neighbours without a common line."""
    later = list(web.pieces)
    found = []
    while later:
        # Loose pieces have no line in common, so the least one may go first,
        # and no two of them are the same: remove takes this very one.
        first = min(loose_pieces(later, web.lines))
        found.append(first)
        later.remove(first)
    return web_of(web.lines, found)


def same_plain(one, other):
    """Tell whether two webs have the same plain web."""
    return plain(one) == plain(other)


def loose_pieces(pieces, lines):
    """Return the list of those pieces that have no line in common with any piece ahead of them."""
    found = []
    taken = []
    for piece in pieces:
        ends = lines_of(piece)
        fresh = [line for line in ends if line not in taken]
        if len(fresh) == len(ends):
            found.append(piece)
        taken = taken + fresh
        # Once all lines are taken, nothing behind is loose.
        if len(taken) == lines:
            return found
    return found


def web_of(lines, pieces):
    """Return the web of so many lines with these pieces."""
    return Web("\n".join([f"web {lines}"] + [piece_text(piece) for piece in pieces]))


def read_web(text):
    """Return the number of lines and the tuple of pieces of a text; raise BadWeb if it is none of a web."""
    if not isinstance(text, str):
        raise BadWeb(0)
    rows = text.split("\n")
    if rows[0] not in HEADS:
        raise BadWeb(1)
    lines = HEADS.index(rows[0]) + 1
    pieces = []
    for number, row in enumerate(rows[1:], start=2):
        piece = read_piece(row, lines)
        if piece is None:
            raise BadWeb(number)
        pieces.append(piece)
    return (lines, tuple(pieces))


def check_line(value, lines):
    """Raise BadLine unless value is a line of so many."""
    if not is_between(value, 0, lines - 1):
        raise BadLine(value)


def check_same_lines(one, other):
    """Raise OtherLines unless both, two Webs or two Programs, have as many lines."""
    if one.lines != other.lines:
        raise OtherLines(other)


def check_webs(value, least, most):
    """Raise BadWebs unless value is a tuple of least to most Webs of the same number of lines."""
    if not isinstance(value, tuple) or not least <= len(value) <= most:
        raise BadWebs(value)
    if not all([isinstance(web, Web) for web in value]):
        raise BadWebs(value)
    if not all([web.lines == value[0].lines for web in value]):
        raise BadWebs(value)
