"""The blocks of programs, as their texts are read line by line."""

from likelights.checks import is_between, read_integer
from likelights.errors import BadProgram
from likelights.patterns import MOST_GRAINS
from likelights.pieces import read_piece, table_through

HEADS = ("program 1", "program 2", "program 3", "program 4")
LETTERS = "abcdefghijklmnopqrstuvwxyz"
MOST_LETTERS = 8
MOST_BLOCKS = 8


class Block:
    """A web, and behind it a look that leads on, or an end.

    `line` is None at an end, `word` is None at a look. `leads` has the block
    for each number that the look may count and the program names, `otherwise`
    the block for all other ones; `named` has (number of the text's line, block)
    for both.
    """

    def __init__(self, name, pieces, table):
        self.name = name
        self.pieces = pieces
        self.table = table
        self.line = None
        self.leads = {}
        self.otherwise = None
        self.named = []
        self.word = None

    def following(self, grains):
        """Return the name of the block that comes once so many grains were counted."""
        return self.leads.get(grains, self.otherwise)


def read_program(text):
    """Return the number of lines and the list of blocks of a text; raise BadProgram if it is none of a program."""
    if not isinstance(text, str):
        raise BadProgram(0)
    rows = text.split("\n")
    if rows[0] not in HEADS:
        raise BadProgram(1)
    lines = HEADS.index(rows[0]) + 1
    blocks = []
    taken = []
    at = 1
    while len(blocks) == 0 or at < len(rows):
        block, at = read_block(rows, at, lines, taken)
        blocks.append(block)
        taken.append(block.name)
    check_leads(blocks)
    return (lines, blocks)


def read_block(rows, at, lines, taken):
    """Return the block that begins at a row, and the place of the row behind it."""
    words = words_at(rows, at)
    if not is_row(words, "block", 2) or not is_name(words[1]) or words[1] in taken or len(taken) == MOST_BLOCKS:
        raise BadProgram(at + 1)
    name = words[1]
    at += 1
    pieces = []
    while at < len(rows) and read_piece(rows[at], lines) is not None:
        pieces.append(read_piece(rows[at], lines))
        at += 1
    block = Block(name, pieces, table_through(lines, pieces))
    words = words_at(rows, at)
    if is_row(words, "end", 2) and is_name(words[1]):
        block.word = words[1]
        return (block, at + 1)
    if not is_row(words, "look", 2) or not is_number(words[1], lines - 1):
        raise BadProgram(at + 1)
    block.line = int(words[1])
    return (block, read_leads(block, rows, at + 1))


def read_leads(block, rows, at):
    """Give the block where its look leads, from a row on; return the place of the row behind."""
    least = 0
    while True:
        words = words_at(rows, at)
        if is_row(words, "else", 2) and is_name(words[1]):
            block.otherwise = words[1]
            block.named.append((at + 1, words[1]))
            return at + 1
        if not is_row(words, "on", 3) or not is_number(words[1], MOST_GRAINS) or not is_name(words[2]):
            raise BadProgram(at + 1)
        grains = int(words[1])
        if grains < least:
            raise BadProgram(at + 1)
        block.leads[grains] = words[2]
        block.named.append((at + 1, words[2]))
        least = grains + 1
        at += 1


def check_leads(blocks):
    """Raise BadProgram with the first line that names what is no block behind its own."""
    for place, block in enumerate(blocks):
        behind = [later.name for later in blocks[place + 1:]]
        for number, name in block.named:
            if name not in behind:
                raise BadProgram(number)


def words_at(rows, at):
    """Return the words of a row, or none behind the last one, so that no row can be read there."""
    return rows[at].split(" ") if at < len(rows) else []


def is_row(words, first, many):
    """Tell whether there are so many words, the first one being this one."""
    return len(words) == many and words[0] == first


def is_name(word):
    """Tell whether a word may name a block, or an end."""
    return 1 <= len(word) <= MOST_LETTERS and all([letter in LETTERS for letter in word])


def is_number(word, most):
    """Tell whether a word is an integer from 0 to most."""
    return is_between(read_integer(word), 0, most)
