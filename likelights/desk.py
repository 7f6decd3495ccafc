"""A desk: deeds and questions at a bench, said as lines and answered as texts."""

from likelights.chances import chance
from likelights.deeds import do_deed, lot_words, read_deed, read_integers, words_of
from likelights.errors import BadWords
from likelights.journals import read_journal
from likelights.pieces import piece_text

# What is said by one word alone.
LONE_WORDS = ("undo", "redo", "web", "grains", "counter")


class Desk:
    """A bench behind a journal, and what is said of it."""

    def __init__(self, text):
        self.bench = read_journal(text)

    def say(self, line):
        """Do what a line tells at the bench, or answer what it asks."""
        deed = read_deed(line)
        if deed is not None:
            do_deed(self.bench, deed)
            return "ok"
        question = read_question(line)
        if question is None:
            raise BadWords(line)
        word, told = question
        return answer(self.bench, word, told)


def read_question(line):
    """Return (word, arguments) of a line that is no deed, or None if it has no form at all."""
    words = words_of(line)
    if words is None:
        return None
    word, *others = words
    if word in LONE_WORDS:
        return (word, ()) if len(others) == 0 else None
    if word == "shares" or word == "looks":
        return (word, tuple(others)) if len(others) == 1 else None
    if word == "weight":
        ends = read_integers(others)
        return None if ends is None or len(ends) != 2 else (word, ends)
    if word == "chance" and len(others) > 1:
        end = read_integers(others[1:])
        return None if end is None else (word, (others[0], end))
    return None


def answer(bench, word, told):
    """Return the text that a bench answers."""
    if word == "undo":
        bench.undo()
        return "ok"
    if word == "redo":
        bench.redo()
        return "ok"
    if word == "web":
        return "; ".join([piece_text(piece) for piece in bench.web.pieces]) or "none"
    if word == "grains":
        return numbers_text(bench.grains)
    if word == "counter":
        return " ".join(lot_words(bench.counter)) or "none"
    if word == "shares":
        return rows_text(bench.shares(told[0]))
    if word == "looks":
        return rows_text(bench.looks(told[0]))
    one, other = told
    if word == "weight":
        return numbers_text(bench.web.weight(one, other))
    return fraction_text(chance(bench.web, one, bench.grains, other))


def rows_text(rows):
    """Return the text of rows of numbers, each with its chance."""
    return "; ".join([f"{numbers_text(numbers)} is {fraction_text(share)}" for numbers, share in rows])


def numbers_text(numbers):
    """Return the text of numbers, a dash if there are none."""
    return " ".join([str(number) for number in numbers]) or "-"


def fraction_text(fraction):
    """Return the top of a fraction, with its bottom if that is not 1."""
    top, bottom = fraction
    return str(top) if bottom == 1 else f"{top}/{bottom}"
