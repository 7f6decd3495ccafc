"""A bench: a web under hands, with grains ahead of it and a counter behind it."""

from likelights.chances import chances
from likelights.checks import is_between
from likelights.counters import check_counter, counted
from likelights.deeds import fill_line, put_line, watch_line
from likelights.errors import BadPiece, BadPlace, NoTrial, NothingToRedo, NothingToUndo
from likelights.patterns import check_lines, check_pattern_of
from likelights.pieces import read_piece
from likelights.tables import shunned
from likelights.webs import web_of


class Trial:
    """A block at a bench, behind which all is as it was, unless it is kept."""

    def __init__(self, bench):
        self.bench = bench
        self.kept = None

    def __enter__(self):
        bench = self.bench
        self.outer = bench.block
        self.web = bench.web
        self.grains = bench.grains
        self.counter = bench.counter
        self.done = bench.done
        self.deeds = bench.deeds
        self.past = bench.past
        self.undone = bench.undone
        bench.block = self
        return bench

    def __exit__(self, kind, value, trace):
        bench = self.bench
        if kind is not None or self.kept is None:
            bench.web = self.web
            bench.grains = self.grains
            bench.counter = self.counter
            bench.done = self.done
            bench.deeds = self.deeds
            bench.past = self.past
            bench.undone = self.undone
        bench.block = self.outer


class Bench:
    """Pieces, grains and a counter, and the deeds that led there.

    `deeds` has the lines of those that stand, `past` what stood ahead of each
    of them; `undone` has (line, what stands behind it) for those that can be
    done again, the next one last; `block` is the innermost trial, or None.
    All of them are replaced, never modified, so that a trial may hold them.
    """

    def __init__(self, lines):
        check_lines(lines)
        self.lines = lines
        self.web = web_of(lines, [])
        self.grains = tuple([0 for _ in range(lines)])
        self.counter = tuple([(line,) for line in range(lines)])
        self.done = 0
        self.deeds = ()
        self.past = ()
        self.undone = ()
        self.block = None

    def __eq__(self, other):
        return isinstance(other, Bench) and self.lines == other.lines and self.deeds == other.deeds

    def put(self, place, text):
        """Put a piece at a place, ahead of those that stood from there on."""
        pieces = self.web.pieces
        if not is_between(place, 0, len(pieces)):
            raise BadPlace(place)
        piece = read_piece(text, self.lines) if isinstance(text, str) else None
        if piece is None:
            raise BadPiece(text)
        self._rebuild(put_line(place, text), pieces[:place] + (piece,) + pieces[place:])

    def take(self, place):
        """Take the piece at a place away."""
        pieces = self.web.pieces
        if not is_between(place, 0, len(pieces) - 1):
            raise BadPlace(place)
        self._rebuild(f"take {place}", pieces[:place] + pieces[place + 1:])

    def swap(self, place):
        """Exchange the piece at a place and the one behind it."""
        pieces = self.web.pieces
        if not is_between(place, 0, len(pieces) - 2):
            raise BadPlace(place)
        both = (pieces[place + 1], pieces[place])
        self._rebuild(f"swap {place}", pieces[:place] + both + pieces[place + 2:])

    def fill(self, pattern):
        """Let these be the grains."""
        check_pattern_of(pattern, self.lines)
        self._do_anew(fill_line(pattern), (self.web, pattern, self.counter))

    def watch(self, counter):
        """Let this be the counter."""
        check_counter(counter, self.lines)
        self._do_anew(watch_line(counter), (self.web, self.grains, counter))

    def shares(self, sort):
        """Return (pattern, chance) for all patterns that the bench's grains may come to."""
        return chances(self.web, sort, self.grains)

    def looks(self, sort):
        """Return (counts, chance) for all counts of the bench's counter."""
        return counted(self.web, sort, self.grains, self.counter)

    def shunned_now(self):
        """Return the shunners' table of the bench's web."""
        return shunned(self.web)

    def undo(self):
        """Take the last deed back that stands."""
        if len(self.deeds) == 0:
            raise NothingToUndo(None)
        self.undone = (*self.undone, (self.deeds[-1], (self.web, self.grains, self.counter)))
        ahead = self.past[-1]
        self.deeds = self.deeds[:-1]
        self.past = self.past[:-1]
        self._stand_so(ahead)

    def redo(self):
        """Do the deed again that was taken back last."""
        if len(self.undone) == 0:
            raise NothingToRedo(None)
        line, behind = self.undone[-1]
        self.undone = self.undone[:-1]
        self._go_on(line, behind)

    def trial(self):
        """Return a block for `with`, behind which all is as it was, unless it is kept."""
        return Trial(self)

    def keep(self):
        """Keep what is done in the innermost block."""
        block = self.block
        if block is None:
            raise NoTrial(None)
        block.kept = True

    def tried(self, look, *, keep=False):
        """Call look with the bench within a block, kept if keep is True, and return what it returned."""
        with self.trial() as held:
            told = look(held)
            if keep is True:
                held.keep()
        return told

    def copy(self):
        """Return an independent bench, alike in all things, outside of all blocks."""
        other = Bench(self.lines)
        other.deeds = self.deeds
        other.past = self.past
        other.undone = self.undone
        other._stand_so((self.web, self.grains, self.counter))
        return other

    def _rebuild(self, line, pieces):
        """Do a deed behind which these are the pieces."""
        self._do_anew(line, (web_of(self.lines, pieces), self.grains, self.counter))

    def _do_anew(self, line, behind):
        """Do a deed anew, so that nothing can be done again."""
        self.undone = ()
        self._go_on(line, behind)

    def _go_on(self, line, behind):
        """Write a deed down, and let web, grains and counter be those behind it."""
        self.past = (*self.past, (self.web, self.grains, self.counter))
        self.deeds = (*self.deeds, line)
        self._stand_so(behind)

    def _stand_so(self, standing):
        """Let web, grains and counter be these, behind all deeds that stand."""
        self.web, self.grains, self.counter = standing
        self.done = len(self.deeds)
