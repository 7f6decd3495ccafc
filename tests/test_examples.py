"""The examples of the document, as they stand."""

import doctest
import unittest

SECTION_4 = """
>>> from likelights.patterns import less, lots_in, pattern_at, patterns, place_of, repeats
>>> from likelights.weights import plus, size, times, turned
>>> [plus((1, 0, 2), (0, 1, 3)), times((1, 1, 2), (1, -1, 2)), plus((1, 1, 2), (-1, -1, 2))]
[(3, 2, 6), (1, 0, 2), (0, 0, 1)]
>>> [turned((3, 4, 5)), size((3, 4, 5)), size((1, 1, 2))]
[(3, -4, 5), (1, 1), (1, 2)]
>>> [patterns(2, 2), patterns(3, 0), len(patterns(4, 6))]
[((2, 0), (1, 1), (0, 2)), ((0, 0, 0),), 84]
>>> [place_of((0, 2, 0)), pattern_at(3, 2, 3), repeats((3, 0, 2))]
[3, (0, 2, 0), 12]
>>> [lots_in((2, 0, 1), 1), lots_in((2, 0, 1), 0), lots_in((2, 0, 1), 3), less((2, 0, 1), (0, 2))]
[((0,), (2,)), ((),), (), (1, 0, 0)]
"""


class Examples(unittest.TestCase):
    def held(self, text, name):
        example = doctest.DocTestParser().get_doctest(text, {}, name, None, 0)
        told = []
        results = doctest.DocTestRunner(verbose=False).run(example, out=told.append)
        self.assertGreater(results.attempted, 0)
        self.assertEqual(results.failed, 0, "".join(told))

    def test_section_4(self):
        self.held(SECTION_4, "section 4")


if __name__ == "__main__":
    unittest.main()
