"""Journals: the deeds at a bench, written down and done again."""

from likelights.bench import Bench
from likelights.deeds import do_deed, read_deed
from likelights.errors import BadJournal, LightError

HEADS = ("bench 1", "bench 2", "bench 3", "bench 4")


def journal(bench):
    """Return the text of all deeds that stand at a bench."""
    return "\n".join([f"bench {bench.lines}", *bench.deeds])


def read_journal(text):
    """Return a bench on which the deeds of a text were done; raise BadJournal if it is no journal."""
    if not isinstance(text, str):
        raise BadJournal(0)
    rows = text.split("\n")
    if rows[0] not in HEADS:
        raise BadJournal(1)
    bench = Bench(HEADS.index(rows[0]) + 1)
    for number, row in enumerate(rows[1:], start=2):
        deed = read_deed(row)
        if deed is None:
            raise BadJournal(number)
        try:
            do_deed(bench, deed)
        except LightError:
            raise BadJournal(number) from None
    return bench
