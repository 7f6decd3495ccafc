"""What the tests share: values of all kinds, and checks that tell True from 1 and lists from tuples."""

import copy

from likelights.webs import Web
from tests.reference import lively_text, random_text


def nested(depth):
    value = ()
    for _ in range(depth - 1):
        value = (value,)
    return value


class Other:
    """An object that is equal to everything: nothing may be told of it by ==."""

    def __eq__(self, other):
        return True

    __hash__ = None


# Values that are no integer, no weight, no pattern and no lot.
NO_KIND_OF_IT = (
    None,
    True,
    False,
    "",
    "1",
    "(1, 0, 1)",
    [],
    {},
    [1, 0, 1],
    {1: 0},
    {"a": (1, 0, 1)},
    nested(30),
    [[[1]]],
    ((1, 0, 1),),
    ([1], 0, 1),
    (None, 0, 1),
    (1, "0", 1),
    (True, 0, 1),
    (1, False, 1),
    (1, 0, True),
    Other(),
    Web("web 2"),
    (Web("web 1"),),
)


# Starts and ends of six grains, by the number of lines.
SIX = {
    1: [((6,), (6,))],
    2: [((6, 0), (0, 6)), ((3, 3), (4, 2)), ((1, 5), (5, 1))],
    3: [((2, 2, 2), (2, 2, 2)), ((6, 0, 0), (1, 2, 3)), ((0, 5, 1), (4, 0, 2))],
    4: [((1, 2, 1, 2), (2, 1, 2, 1)), ((3, 1, 1, 1), (0, 0, 6, 0)), ((0, 0, 3, 3), (3, 3, 0, 0))],
}


def web_at(name, lines, many=9):
    return Web(random_text(name, lines, many))


def lively_web(name, lines, many=6):
    return Web(lively_text(name, lines, many))


def no_counters(lines):
    """Values that are no counter of so many lines."""
    each = tuple((line,) for line in range(lines))
    wrong = (
        0, "0", ((),), each + ((),), ((),) + each, each + ((0,),), each + each, [(0,)], list(each), ([0],), (0,), (0, 1),
        ((0, 0),), ((lines,),), ((-1,),), ((0,), (-lines,)), ((0, lines),), ((True,),), ((False,),), (("0",),),
        ((None,),), (((0,),),), ((0,), None), (None, (0,)), ((0,), [1]), {(0,): 1}, each + (lines,), ((0.0,),),
        ((0,), True), ((lines - 1, 0),), ((0,), (0,)), tuple(each[::-1]) + ((0,),), (tuple(range(lines)), (0,)),
    )
    return NO_KIND_OF_IT + wrong


def moved_pattern(pattern, lines):
    found = [0] * len(pattern)
    for line, grains in enumerate(pattern):
        found[lines[line]] = grains
    return tuple(found)


def no_patterns(lines):
    """Values that are no pattern of so many lines."""
    return NO_KIND_OF_IT + tuple(
        value for value in (
            0, 1, -1, "1", "10", (), (1,), (1, 0), (0, 1, 0), (1, 0, 0, 0), (0, 0, 0, 0, 0), (7,), (7, 0), (7, 7, 7),
            (1, 1, 1, 9), ((1, 0),), [1] * lines, [7] * lines, (-1,) * lines, (0,) * (lines - 1) + (-1,),
            (9,) * (lines - 1) + (-1,), (True,) * lines, (0,) * (lines - 1) + (False,), (None,) * lines,
            ("1",) * lines, ((1,),) * lines, {line: 1 for line in range(lines)}, (1,) * (lines + 1),
        )
        if not (isinstance(value, tuple) and len(value) == lines
                and all(type(part) is int and part >= 0 for part in value))
    )


def too_many(lines):
    return [(7,) + (0,) * (lines - 1), (0,) * (lines - 1) + (9,), (3,) * (lines - 1) + (7,), (10 ** 40,) * lines]


class Checks:
    """Mixed into the test cases: both hold values apart that == takes for the same."""

    def same(self, got, wanted):
        self.assertEqual(repr(got), repr(wanted))

    def refused(self, error, value, call, /, *args, **named):
        """call raises just this error, with this very value, and leaves its arguments alone."""
        before = copy.deepcopy((args, named))
        with self.assertRaises(error) as caught:
            call(*args, **named)
        self.assertIs(caught.exception.__class__, error)
        if isinstance(value, int) and not isinstance(value, bool):
            self.same(caught.exception.value, value)
        else:
            self.assertIs(caught.exception.value, value)
        self.assertEqual((args, named), before)

    def refused_with(self, error, value, call, /, *args, **named):
        """The same for a value that the program itself makes, such as two numbers."""
        before = copy.deepcopy((args, named))
        with self.assertRaises(error) as caught:
            call(*args, **named)
        self.assertIs(caught.exception.__class__, error)
        self.same(caught.exception.value, value)
        self.assertEqual((args, named), before)
