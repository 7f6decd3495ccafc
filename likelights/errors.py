"""The errors of the package, all of them directly below LightError."""


class LightError(ValueError):
    """What a caller handed in and the package refused; `value` tells what it was."""

    def __init__(self, value):
        # The base keeps its arguments by itself; it is not called, as the
        # value may be of any kind, not only a string.
        self.value = value


class BadWeight(LightError):
    """No weight, or one that is not in least terms."""


class BadPattern(LightError):
    """No pattern, or none of so many lines."""


class TooMany(LightError):
    """More grains than 6; the value tells how many."""


class BadLines(LightError):
    """No number of lines from 1 to 4."""


class BadGrains(LightError):
    """No number of grains, or one beyond its bounds."""


class BadPlace(LightError):
    """No place, or none that is there."""


class BadSize(LightError):
    """No size of a lot of so many lines."""


class BadLot(LightError):
    """No lot, or not of lines that it may have."""


class BadWeb(LightError):
    """No text of a web; the value tells the line, 0 for no string."""


class BadLine(LightError):
    """No line of the web."""


class OtherLines(LightError):
    """Not as many lines as the other one has."""


class Wide(LightError):
    """More than 4 lines; the value tells how many."""


class BadMove(LightError):
    """Not a tuple of all lines, each just once."""


class OtherCount(LightError):
    """Patterns of unlike numbers of grains; the value tells both."""


class OtherSize(LightError):
    """Lots of unlike sizes; the value tells both."""


class BadRows(LightError):
    """No rows as they are told."""


class BadSort(LightError):
    """No sort of grains."""


class NotLone(LightError):
    """A pattern of shunners with more than one at a line."""


class BadTable(LightError):
    """No table of shunners."""


class BadCounter(LightError):
    """No counter for so many lines."""


class BadSeen(LightError):
    """Not what a counter sees of shunners."""


class BadCounts(LightError):
    """No counts beside the counter."""


class BadShares(LightError):
    """No shares, one for each place."""


class BadWebs(LightError):
    """No tuple of so many webs of the same number of lines."""


class BadWord(LightError):
    """A word that means nothing here."""


class BadProgram(LightError):
    """No text of a program; the value tells the line, 0 for no string."""


class Nothing(LightError):
    """A word that never comes."""


class BadChange(LightError):
    """No change of the web."""


class NotKept(LightError):
    """A start that the change does not leave as it is."""


class BadPrices(LightError):
    """No prices, one for each web, that come to 1."""


class BadShots(LightError):
    """No shots and what came behind them."""


class Never(LightError):
    """Shots that cannot have gone so by any of the webs."""


class BadPiece(LightError):
    """No piece of a web of so many lines."""


class NothingToUndo(LightError):
    """No deed stands that could be taken back."""


class NothingToRedo(LightError):
    """No deed was taken back that could be done again."""


class NoTrial(LightError):
    """Nothing to keep: outside of all trials."""


class BadJournal(LightError):
    """No journal; the value tells the line, 0 for no string."""


class BadWords(LightError):
    """Nothing that a desk understands."""
