"""Programs: webs with looks between them, where what is counted decides which pieces come next."""

from math import factorial

from likelights.blocks import read_program
from likelights.chances import check_grains_of
from likelights.errors import BadSort, BadWord, Nothing
from likelights.patterns import repeats
from likelights.ratios import NO_SHARE, add_fractions, divide_fractions, least_fraction, multiply_fractions, total_of
from likelights.sums import multiplied_out, signed_out
from likelights.webs import check_same_lines
from likelights.weights import NOUGHT, ONE, add_weights, multiply_weights, size

SORTS = ("flockers", "shunners")


class Program:
    """A tree of webs with looks between: what is counted decides which pieces come next."""

    def __init__(self, text):
        lines, blocks = read_program(text)
        told = [block.word for block in blocks if block.word is not None]
        self.text = text
        self.lines = lines
        self.blocks = tuple([block.name for block in blocks])
        self.words = tuple([word for at, word in enumerate(told) if word not in told[:at]])
        self.tree = {block.name: block for block in blocks}

    def __eq__(self, other):
        return isinstance(other, Program) and self.text == other.text


def ways(program, sort, start):
    """Return (counts, word, chance) for all ways that come, ascending by counts."""
    check_grains_through(program, sort, start)
    found = all_ways(program, sort, start)
    return tuple(sorted([(counts, word, total_of(list(shares.values()))) for counts, word, shares in found]))


def ends(program, sort, start):
    """Return (word, chance) for all words of a program, as they first stand."""
    check_grains_through(program, sort, start)
    found = chances_by_word(program, sort, start)
    return tuple([(word, found[word]) for word in program.words])


def left(program, sort, start, word):
    """Return (pattern, share) for all patterns that can be left where the word comes."""
    check_grains_through(program, sort, start)
    if not isinstance(word, str) or word not in program.words:
        raise BadWord(word)
    found = {}
    for _, last, shares in all_ways(program, sort, start):
        if last == word:
            for pattern, share in shares.items():
                found[pattern] = add_fractions(found.get(pattern, NO_SHARE), share)
    if len(found) == 0:
        raise Nothing(word)
    whole = total_of(list(found.values()))
    return tuple([(pattern, divide_fractions(found[pattern], whole)) for pattern in sorted(found, reverse=True)])


def programs_alike(one, other, sort, start):
    """Return ("alike",), or ("unlike", word, chance, chance) with the first word that shows it."""
    check_same_lines(one, other)
    check_grains_through(one, sort, start)
    near = chances_by_word(one, sort, start)
    far = chances_by_word(other, sort, start)
    for word in one.words + other.words:
        by_one = near.get(word, NO_SHARE)
        by_other = far.get(word, NO_SHARE)
        if by_one != by_other:
            return ("unlike", word, by_one, by_other)
    return ("alike",)


def chances_by_word(program, sort, start):
    """Return a dict with the chance of each word of a program, also of those that never come."""
    found = {word: NO_SHARE for word in program.words}
    for _, word, shares in all_ways(program, sort, start):
        found[word] = add_fractions(found[word], total_of(list(shares.values())))
    return found


def all_ways(program, sort, start):
    """Return (counts, word, shares) for all ways that come, shares having the chance of each pattern left."""
    found = []
    known = {}
    pending = [(program.blocks[0], (), {start: ONE})]
    while len(pending) > 0:
        name, counts, products = pending.pop()
        block = program.tree[name]
        products = led_through(block, sort, products, known)
        if block.line is None:
            found.append((counts, block.word, shares_left(products, counts, start)))
            continue
        for grains in range(sum(start) + 1):
            beside = looked_at(products, block.line, grains, sort)
            if len(beside) > 0:
                pending.append((block.following(grains), (*counts, grains), beside))
    return found


def led_through(block, sort, products, known):
    """Return the dict of products behind the pieces of a block, without those of weight 0.

    known keeps what becomes of one pattern in one block: many ways lead there.
    """
    if len(block.pieces) == 0:
        return products
    found = {}
    for pattern, weight in products.items():
        at = (block.name, pattern)
        if at not in known:
            known[at] = led_on(block.table, sort, pattern)
        for end, way in known[at].items():
            found[end] = add_weights(found.get(end, NOUGHT), multiply_weights(weight, way))
    return {pattern: weight for pattern, weight in found.items() if weight != NOUGHT}


def led_on(table, sort, pattern):
    """Return the dict of products that the grains of a pattern come to by a table."""
    if sort == "shunners":
        return signed_out(table, pattern)
    return multiplied_out(table, pattern)


def looked_at(products, line, grains, sort):
    """Return the dict of what stands beside just so many grains at a line, which are gone."""
    found = {}
    for pattern, weight in products.items():
        if pattern[line] == grains:
            ahead = sum(pattern[:line])
            turn = (-1, 0, 1) if sort == "shunners" and grains == 1 and ahead & 1 else ONE
            found[pattern[:line] + (0,) + pattern[line + 1:]] = multiply_weights(weight, turn)
    return found


def shares_left(products, counts, start):
    """Return a dict with the chance that a way comes, with these counts, and each pattern is left."""
    many = 1
    for grains in counts:
        many = many * factorial(grains)
    whole = repeats(start)
    return {
        pattern: multiply_fractions(size(weight), least_fraction(many * repeats(pattern), whole))
        for pattern, weight in products.items()
    }


def check_grains_through(program, sort, start):
    """Raise BadSort, BadPattern, TooMany, NotLone unless such grains may run through the program."""
    if not isinstance(sort, str) or sort not in SORTS:
        raise BadSort(sort)
    check_grains_of(sort, start, program.lines)
