"""What the tests share: values of all kinds, and checks that tell True from 1 and lists from tuples."""

import copy


def nested(depth):
    value = ()
    for _ in range(depth - 1):
        value = (value,)
    return value


class Other:
    """An object that is equal to everything: nothing may be told of it by ==."""

    def __eq__(self, other):
        return True

    __hash__ = None


# Values that are no integer, no weight, no pattern and no lot.
NO_KIND_OF_IT = (
    None,
    True,
    False,
    "",
    "1",
    "(1, 0, 1)",
    [],
    {},
    [1, 0, 1],
    {1: 0},
    {"a": (1, 0, 1)},
    nested(30),
    [[[1]]],
    ((1, 0, 1),),
    ([1], 0, 1),
    (None, 0, 1),
    (1, "0", 1),
    (True, 0, 1),
    (1, False, 1),
    (1, 0, True),
    Other(),
)


class Checks:
    """Mixed into the test cases: both hold values apart that == takes for the same."""

    def same(self, got, wanted):
        self.assertEqual(repr(got), repr(wanted))

    def refused(self, error, value, call, *args, **named):
        """call raises just this error, with this very value, and leaves its arguments alone."""
        before = copy.deepcopy((args, named))
        with self.assertRaises(error) as caught:
            call(*args, **named)
        self.assertIs(caught.exception.__class__, error)
        if isinstance(value, int) and not isinstance(value, bool):
            self.same(caught.exception.value, value)
        else:
            self.assertIs(caught.exception.value, value)
        self.assertEqual((args, named), before)
