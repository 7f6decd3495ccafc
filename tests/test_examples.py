"""The examples of the document, as they stand."""

import doctest
import unittest
from pathlib import Path

README = Path(__file__).resolve().parent.parent / "README.md"

SECTION_4 = """
>>> from likelights.patterns import less, lots_in, pattern_at, patterns, place_of, repeats
>>> from likelights.weights import plus, size, times, turned
>>> [plus((1, 0, 2), (0, 1, 3)), times((1, 1, 2), (1, -1, 2)), plus((1, 1, 2), (-1, -1, 2))]
[(3, 2, 6), (1, 0, 2), (0, 0, 1)]
>>> [turned((3, 4, 5)), size((3, 4, 5)), size((1, 1, 2))]
[(3, -4, 5), (1, 1), (1, 2)]
>>> [patterns(2, 2), patterns(3, 0), len(patterns(4, 6))]
[((2, 0), (1, 1), (0, 2)), ((0, 0, 0),), 84]
>>> [place_of((0, 2, 0)), pattern_at(3, 2, 3), repeats((3, 0, 2))]
[3, (0, 2, 0), 12]
>>> [lots_in((2, 0, 1), 1), lots_in((2, 0, 1), 0), lots_in((2, 0, 1), 3), less((2, 0, 1), (0, 2))]
[((0,), (2,)), ((),), (), (1, 0, 0)]
"""

SECTION_5 = r"""
>>> from likelights.webs import Web, back, beside, mirrored, moved, plain, same_plain
>>> one = Web('web 2\nmirror 0 1 3 4 5\nturn 1 0 1 1')
>>> [one.table, one.weight(0, 1), one.pieces[1], len(one)]
[(((3, 0, 5), (0, 4, 5)), ((-4, 0, 5), (0, 3, 5))), (-4, 0, 5), ('turn', 1, 0, 1, 1), 2]
>>> [back(one).text.split('\n'), (one * back(one)).table]
[['web 2', 'turn 1 0 -1 1', 'mirror 0 1 3 -4 5'], (((1, 0, 1), (0, 0, 1)), ((0, 0, 1), (1, 0, 1)))]
>>> half = Web('web 2\neven 0 1 1')
>>> [half.table, (half * half).table, mirrored(half).text.split('\n')]
[(((1, 1, 2), (1, -1, 2)), ((1, -1, 2), (1, 1, 2))), (((0, 0, 1), (1, 0, 1)), ((1, 0, 1), (0, 0, 1))), ['web 2', 'even 0 1 -1']]
>>> [beside(half, one).text.split('\n'), moved(one, (1, 0)).pieces]
[['web 4', 'even 0 1 1', 'mirror 2 3 3 4 5', 'turn 3 0 1 1'], (('mirror', 1, 0, 3, 4, 5), ('turn', 0, 0, 1, 1))]
>>> [plain(Web('web 3\nturn 2 0 1 1\neven 0 1 1\ncross 0 1')).text.split('\n')[1:], same_plain(half, one)]
[['even 0 1 1', 'cross 0 1', 'turn 2 0 1 1'], False]
"""

SECTION_6 = r"""
>>> from likelights.sums import apart, spread, together
>>> from likelights.webs import Web
>>> one = Web('web 2\nmirror 0 1 3 4 5')
>>> [together(one, (1, 1), (1, 1)), together(one, (1, 1), (2, 0)), apart(one, (0, 1), (0, 1))]
[(-7, 0, 25), (0, 24, 25), (1, 0, 1)]
>>> spread(one, (1, 1))
(((2, 0), (0, 12, 25)), ((1, 1), (-7, 0, 25)), ((0, 2), (0, 12, 25)))
>>> even = Web('web 2\neven 0 1 1')
>>> [together(even, (1, 1), (1, 1)), together(even, (2, 0), (1, 1)), apart(even, (0,), (1,))]
[(0, 0, 1), (1, 0, 1), (1, -1, 2)]
"""

SECTION_7 = r"""
>>> from likelights.chances import chance, chances, company
>>> from likelights.webs import Web
>>> half, slant = Web('web 2\neven 0 1 1'), Web('web 2\nmirror 0 1 3 4 5')
>>> chances(half, 'flockers', (1, 1))
(((2, 0), (1, 2)), ((1, 1), (0, 1)), ((0, 2), (1, 2)))
>>> [chances(half, 'strangers', (1, 1)), chances(half, 'shunners', (1, 1))]
[(((2, 0), (1, 4)), ((1, 1), (1, 2)), ((0, 2), (1, 4))), (((1, 1), (1, 1)),)]
>>> [chance(slant, sort, (1, 1), (1, 1)) for sort in ('strangers', 'flockers', 'shunners')]
[(337, 625), (49, 625), (1, 1)]
>>> [chance(slant, 'flockers', (2, 0), (2, 0)), chance(slant, 'flockers', (0, 0), (0, 0))]
[(81, 625), (1, 1)]
>>> company(slant, (('flockers', (1, 0)), ('shunners', (0, 1))))
(((2, 0), (144, 625)), ((1, 1), (337, 625)), ((0, 2), (144, 625)))
"""

SECTION_8 = r"""
>>> from likelights.chances import chance
>>> from likelights.tables import backward, by_shunned, shunned, table_wrong
>>> from likelights.webs import Web
>>> web = Web('web 2\nmirror 0 1 3 4 5')
>>> table = shunned(web)
>>> table
((((1, 1),),), (((9, 25), (16, 25)), ((16, 25), (9, 25))), (((1, 1),),))
>>> [by_shunned(table, (1, 1), (1, 1)), by_shunned(table, (1, 1), (2, 0)), by_shunned(table, (2, 0), (2, 0)), chance(web, 'flockers', (1, 1), (2, 0))]
[(49, 625), (288, 625), (81, 625), (288, 625)]
>>> ones = (((0,), (0,), (9, 25)), ((0,), (1,), (16, 25)), ((1,), (0,), (16, 25)), ((1,), (1,), (9, 25)))
>>> [backward(2, ones + (((0, 1), (0, 1), (49, 625)),)) == table, table_wrong(table), table_wrong(table[:2])]
[True, None, ('form',)]
>>> half = (1, 2)
>>> [table_wrong((table[0], ((half, half), ((1, 1), (0, 1))), table[2])), table_wrong((table[0], ((half, half), (half, half)), table[2]))]
[('column', (0,)), None]
"""


class Examples(unittest.TestCase):
    def held(self, text, name):
        example = doctest.DocTestParser().get_doctest(text, {}, name, None, 0)
        told = []
        results = doctest.DocTestRunner(verbose=False).run(example, out=told.append)
        self.assertGreater(results.attempted, 0)
        self.assertEqual(results.failed, 0, "".join(told))

    def test_section_4(self):
        self.held(SECTION_4, "section 4")

    def test_section_5(self):
        self.held(SECTION_5, "section 5")

    def test_section_6(self):
        self.held(SECTION_6, "section 6")

    def test_section_7(self):
        self.held(SECTION_7, "section 7")

    def test_section_8(self):
        self.held(SECTION_8, "section 8")

    def test_readme(self):
        self.held(README.read_text().replace("```", ""), "README.md")


if __name__ == "__main__":
    unittest.main()
