"""Deeds at a bench as lines of a journal: written, read, and done."""

from likelights.checks import read_integer


def put_line(place, text):
    """Return the line of the deed that puts a piece."""
    return f"put {place} {text}"


def fill_line(pattern):
    """Return the line of the deed that fills the lines with grains."""
    return " ".join(["fill", *[str(grains) for grains in pattern]])


def watch_line(counter):
    """Return the line of the deed that sets a counter."""
    return " ".join(["watch", *lot_words(counter)])


def lot_words(counter):
    """Return the list of a counter's lots, each one word."""
    return ["+".join([str(line) for line in lot]) for lot in counter]


def words_of(line):
    """Return the list of the words of a line, or None if value is no line of words parted by one blank."""
    if not isinstance(line, str) or "\n" in line:
        return None
    words = line.split(" ")
    return None if "" in words else words


def read_integers(words):
    """Return the tuple of integers that words are, or None if one of them is none."""
    numbers = [read_integer(word) for word in words]
    return None if None in numbers else tuple(numbers)


def read_deed(line):
    """Return the deed (word, arguments) that a line is, or None if it has no such form."""
    words = words_of(line)
    if words is None:
        return None
    word, *others = words
    if word == "put":
        return read_put(others)
    if word == "take" or word == "swap":
        places = read_integers(others)
        return None if places is None or len(places) != 1 else (word, places)
    if word == "fill":
        pattern = read_integers(others)
        return None if pattern is None or len(pattern) == 0 else (word, (pattern,))
    if word == "watch":
        lots = [read_integers(other.split("+")) for other in others]
        return None if None in lots else (word, (tuple(lots),))
    return None


def read_put(words):
    """Return the deed that puts a piece, from the words behind its first one, or None."""
    if len(words) < 2 or read_integer(words[0]) is None:
        return None
    return ("put", (read_integer(words[0]), " ".join(words[1:])))


def do_deed(bench, deed):
    """Do at a bench what a deed tells; raise what the bench raises."""
    word, told = deed
    if word == "put":
        place, text = told
        bench.put(place, text)
        return
    only = told[0]
    if word == "take":
        bench.take(only)
    elif word == "swap":
        bench.swap(only)
    elif word == "fill":
        bench.fill(only)
    else:
        bench.watch(only)
