"""The examples of the document, as they stand."""

import doctest
import unittest
from pathlib import Path

README = Path(__file__).resolve().parent.parent / "README.md"

SECTION_4 = """
>>> from likelights.patterns import less, lots_in, pattern_at, patterns, place_of, repeats
>>> from likelights.weights import plus, size, times, turned
>>> [plus((1, 0, 2), (0, 1, 3)), times((1, 1, 2), (1, -1, 2)), plus((1, 1, 2), (-1, -1, 2))]
[(3, 2, 6), (1, 0, 2), (0, 0, 1)]
>>> [turned((3, 4, 5)), size((3, 4, 5)), size((1, 1, 2))]
[(3, -4, 5), (1, 1), (1, 2)]
>>> [patterns(2, 2), patterns(3, 0), len(patterns(4, 6))]
[((2, 0), (1, 1), (0, 2)), ((0, 0, 0),), 84]
>>> [place_of((0, 2, 0)), pattern_at(3, 2, 3), repeats((3, 0, 2))]
[3, (0, 2, 0), 12]
>>> [lots_in((2, 0, 1), 1), lots_in((2, 0, 1), 0), lots_in((2, 0, 1), 3), less((2, 0, 1), (0, 2))]
[((0,), (2,)), ((),), (), (1, 0, 0)]
"""

SECTION_5 = r"""
>>> from likelights.webs import Web, back, beside, mirrored, moved, plain, same_plain
>>> one = Web('web 2\nmirror 0 1 3 4 5\nturn 1 0 1 1')
>>> [one.table, one.weight(0, 1), one.pieces[1], len(one)]
[(((3, 0, 5), (0, 4, 5)), ((-4, 0, 5), (0, 3, 5))), (-4, 0, 5), ('turn', 1, 0, 1, 1), 2]
>>> [back(one).text.split('\n'), (one * back(one)).table]
[['web 2', 'turn 1 0 -1 1', 'mirror 0 1 3 -4 5'], (((1, 0, 1), (0, 0, 1)), ((0, 0, 1), (1, 0, 1)))]
>>> half = Web('web 2\neven 0 1 1')
>>> [half.table, (half * half).table, mirrored(half).text.split('\n')]
[(((1, 1, 2), (1, -1, 2)), ((1, -1, 2), (1, 1, 2))), (((0, 0, 1), (1, 0, 1)), ((1, 0, 1), (0, 0, 1))), ['web 2', 'even 0 1 -1']]
>>> [beside(half, one).text.split('\n'), moved(one, (1, 0)).pieces]
[['web 4', 'even 0 1 1', 'mirror 2 3 3 4 5', 'turn 3 0 1 1'], (('mirror', 1, 0, 3, 4, 5), ('turn', 0, 0, 1, 1))]
>>> [plain(Web('web 3\nturn 2 0 1 1\neven 0 1 1\ncross 0 1')).text.split('\n')[1:], same_plain(half, one)]
[['even 0 1 1', 'cross 0 1', 'turn 2 0 1 1'], False]
"""

SECTION_6 = r"""
>>> from likelights.sums import apart, spread, together
>>> from likelights.webs import Web
>>> one = Web('web 2\nmirror 0 1 3 4 5')
>>> [together(one, (1, 1), (1, 1)), together(one, (1, 1), (2, 0)), apart(one, (0, 1), (0, 1))]
[(-7, 0, 25), (0, 24, 25), (1, 0, 1)]
>>> spread(one, (1, 1))
(((2, 0), (0, 12, 25)), ((1, 1), (-7, 0, 25)), ((0, 2), (0, 12, 25)))
>>> even = Web('web 2\neven 0 1 1')
>>> [together(even, (1, 1), (1, 1)), together(even, (2, 0), (1, 1)), apart(even, (0,), (1,))]
[(0, 0, 1), (1, 0, 1), (1, -1, 2)]
"""

SECTION_7 = r"""
>>> from likelights.chances import chance, chances, company
>>> from likelights.webs import Web
>>> half, slant = Web('web 2\neven 0 1 1'), Web('web 2\nmirror 0 1 3 4 5')
>>> chances(half, 'flockers', (1, 1))
(((2, 0), (1, 2)), ((1, 1), (0, 1)), ((0, 2), (1, 2)))
>>> [chances(half, 'strangers', (1, 1)), chances(half, 'shunners', (1, 1))]
[(((2, 0), (1, 4)), ((1, 1), (1, 2)), ((0, 2), (1, 4))), (((1, 1), (1, 1)),)]
>>> [chance(slant, sort, (1, 1), (1, 1)) for sort in ('strangers', 'flockers', 'shunners')]
[(337, 625), (49, 625), (1, 1)]
>>> [chance(slant, 'flockers', (2, 0), (2, 0)), chance(slant, 'flockers', (0, 0), (0, 0))]
[(81, 625), (1, 1)]
>>> company(slant, (('flockers', (1, 0)), ('shunners', (0, 1))))
(((2, 0), (144, 625)), ((1, 1), (337, 625)), ((0, 2), (144, 625)))
"""

SECTION_8 = r"""
>>> from likelights.chances import chance
>>> from likelights.tables import backward, by_shunned, shunned, table_wrong
>>> from likelights.webs import Web
>>> web = Web('web 2\nmirror 0 1 3 4 5')
>>> table = shunned(web)
>>> table
((((1, 1),),), (((9, 25), (16, 25)), ((16, 25), (9, 25))), (((1, 1),),))
>>> [by_shunned(table, (1, 1), (1, 1)), by_shunned(table, (1, 1), (2, 0)), by_shunned(table, (2, 0), (2, 0)), chance(web, 'flockers', (1, 1), (2, 0))]
[(49, 625), (288, 625), (81, 625), (288, 625)]
>>> ones = (((0,), (0,), (9, 25)), ((0,), (1,), (16, 25)), ((1,), (0,), (16, 25)), ((1,), (1,), (9, 25)))
>>> [backward(2, ones + (((0, 1), (0, 1), (49, 625)),)) == table, table_wrong(table), table_wrong(table[:2])]
[True, None, ('form',)]
>>> half = (1, 2)
>>> [table_wrong((table[0], ((half, half), ((1, 1), (0, 1))), table[2])), table_wrong((table[0], ((half, half), (half, half)), table[2]))]
[('column', (0,)), None]
"""

SECTION_9 = r"""
>>> from likelights.counters import by_seen, counted, missed, seen_table, whether
>>> from likelights.webs import Web
>>> half = Web('web 2\neven 0 1 1')
>>> first = ((0,),)
>>> [counted(half, sort, (1, 1), first) for sort in ('strangers', 'flockers', 'shunners')]
[(((2,), (1, 4)), ((1,), (1, 2)), ((0,), (1, 4))), (((2,), (1, 2)), ((1,), (0, 1)), ((0,), (1, 2))), (((2,), (0, 1)), ((1,), (1, 1)), ((0,), (0, 1)))]
>>> [whether(half, 'flockers', (1, 1), first), counted(half, 'flockers', (2, 0), ((0, 1),))[0]]
[(((1,), (1, 2)), ((0,), (1, 2))), ((2,), (1, 1))]
>>> seen = seen_table(half, first)
>>> [row for row in seen if row[0] in ((1,), (0, 1))]
[((1,), (1,), (1, 2)), ((1,), (0,), (1, 2)), ((0, 1), (2,), (0, 1)), ((0, 1), (1,), (1, 1)), ((0, 1), (0,), (0, 1))]
>>> [by_seen(2, first, seen, (1, 1), counts) for counts in ((2,), (1,), (0,))]
[(1, 2), (0, 1), (1, 2)]
>>> missed((((2,), (1, 2)), ((0,), (1, 2))), ((1, 2),))
(((2,), (1, 8)), ((1,), (1, 4)), ((0,), (5, 8)))
"""

SECTION_10 = r"""
>>> from likelights.alike import alike, anywhere, between, kinds_of, shows_alike, shows_between
>>> from likelights.webs import Web
>>> plain = Web('web 2')
>>> even = Web('web 2\neven 0 1 1')
>>> tilted = Web('web 2\nmirror 0 1 3 4 5')
>>> turned = Web('web 2\nturn 0 0 1 1\nturn 1 0 1 1')
>>> each = ((0,), (1,))
>>> [alike(plain, turned, each), between(plain, turned), anywhere(plain, turned)[0]]
[('alike',), ('turn', (0, 1, 1)), 'anywhere']
>>> [alike(even, tilted, ((0,),))[0], alike(even, tilted, ((0, 1),)), shows_alike(even, tilted, each, ('unlike', (0,), (1, 0), (1, 2), (9, 25)))]
['unlike', ('alike',), True]
>>> back = Web('web 2\neven 0 1 -1')
>>> [alike(even, back, each), between(even, back)[0], shows_between(even, back, ('between', 'web 2\neven 0 1 1', 'web 2', 0, 0))]
[('alike',), 'between', True]
>>> kinds_of((plain, turned, even, back, tilted), 'between', each)
((0, 1), (2,), (3,), (4,))
"""

SECTION_11 = r"""
>>> from likelights.programs import ends, left, Program, programs_alike, ways
>>> look = Program('program 2\nblock a\neven 0 1 1\nlook 0\non 0 b\nelse c\nblock b\nend none\nblock c\nend some')
>>> [look.lines, look.blocks, look.words, ways(look, 'flockers', (1, 1))]
[2, ('a', 'b', 'c'), ('none', 'some'), (((0,), 'none', (1, 2)), ((2,), 'some', (1, 2)))]
>>> [left(look, 'flockers', (1, 1), 'none'), left(look, 'flockers', (1, 1), 'some'), ends(look, 'shunners', (1, 1))]
[(((0, 2), (1, 1)),), (((0, 0), (1, 1)),), (('none', (0, 1)), ('some', (1, 1)))]
>>> again = Program('program 2\nblock a\neven 0 1 1\nlook 0\non 1 b\nelse c\nblock b\neven 0 1 -1\nlook 1\non 1 c\nelse d\nblock c\nend none\nblock d\nend some')
>>> [ways(again, 'flockers', (1, 0)), programs_alike(look, again, 'flockers', (1, 0)), programs_alike(look, again, 'flockers', (1, 1))]
[(((0,), 'none', (1, 2)), ((1, 0), 'some', (1, 2))), ('alike',), ('unlike', 'none', (1, 2), (1, 1))]
"""

SECTION_12 = r"""
>>> from likelights.never import barred, changes, never, shows_never, surely
>>> from likelights.webs import Web
>>> plus = Web('web 2\nturn 1 0 1 1\neven 0 1 1\nturn 1 0 1 1')
>>> plus.table
(((1, 1, 2), (1, 1, 2)), ((1, 1, 2), (-1, -1, 2)))
>>> changes(plus)
(((0, 1), ((1, 0, 1), (1, 0, 1))), ((1, 0), ((1, 0, 1), (-1, 0, 1))))
>>> [barred(plus, changes(plus)[1], (1, 1)), never(plus, (1, 1), (1, 1)), never(plus, (1, 1), (2, 0))]
[((1, 1),), ('changed', (1, 0)), ('comes', (1, 2))]
>>> [never(plus, (3, 1), (2, 2)), shows_never(plus, (3, 1), (2, 2), ('changed', (1, 0)))]
[('nought',), False]
>>> [surely(plus, 'flockers', (1, 1), (0,)), surely(plus, 'flockers', (1, 1), (0, 1)), surely(plus, 'shunners', (1, 1), (0,))]
[(0, 2), (2, 2), (1, 1)]
"""

SECTION_13 = r"""
>>> from likelights.parting import beliefs, fewest, guess, parting, shows_parting
>>> from likelights.webs import Web
>>> half, empty, crossed = Web('web 2\neven 0 1 1'), Web('web 2'), Web('web 2\ncross 0 1')
>>> [parting((half, empty), 1), parting((half, empty), 2), parting((half, empty, crossed), 2)[0]]
[('never', 0, 1), ('plan', ((0, 1, (1, 1)),)), 'plan']
>>> [shows_parting((half, empty, crossed), 2, ('plan', ((0, 1, (1, 1)), (0, 2, (1, 1)), (1, 2, shot)))) for shot in ((1, 0), (0, 2), (1, 1))]
[True, True, False]
>>> [fewest((half, empty), 1), fewest((half, empty), 2), fewest((half, empty, crossed), 2)]
[None, 1, 2]
>>> guess((half, empty), ((1, 2), (1, 2)), (1, 0))
((3, 4), (((1, 0), 1), ((0, 1), 0)))
>>> [beliefs((half, empty), ((1, 2), (1, 2)), (((1, 0), (1, 0)),)), beliefs((half, empty), ((1, 2), (1, 2)), (((1, 1), (1, 1)),))]
[((1, 3), (2, 3)), ((0, 1), (1, 1))]
"""

SECTION_14 = r"""
>>> from likelights.bench import Bench
>>> bench = Bench(2)
>>> bench.put(0, 'even 0 1 1')
>>> bench.fill((1, 1))
>>> [bench.shares('flockers'), bench.done]
[(((2, 0), (1, 2)), ((1, 1), (0, 1)), ((0, 2), (1, 2))), 2]
>>> bench.watch(((0,),))
>>> bench.looks('strangers')
(((2,), (1, 4)), ((1,), (1, 2)), ((0,), (1, 4)))
>>> bench.put(0, 'turn 1 0 1 1')
>>> bench.put(2, 'mirror 0 1 3 4 5')
>>> bench.swap(1)
>>> [bench.web.lines, bench.web.pieces, bench.done]
[2, (('turn', 1, 0, 1, 1), ('mirror', 0, 1, 3, 4, 5), ('even', 0, 1, 1)), 6]
>>> bench.undo()
>>> bench.take(2)
>>> [bench.web.text.split('\n'), bench.grains, bench.counter]
[['web 2', 'turn 1 0 1 1', 'even 0 1 1'], (1, 1), ((0,),)]
"""

SECTION_15 = r"""
>>> from likelights.desk import Desk
>>> from likelights.journals import journal, read_journal
>>> desk = Desk('bench 2\nput 0 even 0 1 1\nfill 1 1')
>>> [desk.say(line) for line in ('shares flockers', 'chance shunners 1 1', 'weight 0 1', 'watch 1', 'looks strangers')]
['2 0 is 1/2; 1 1 is 0; 0 2 is 1/2', '1', '1 -1 2', 'ok', '2 is 1/4; 1 is 1/2; 0 is 1/4']
>>> [desk.say(line) for line in ('put 1 turn 1 0 1 1', 'web', 'swap 0', 'undo', 'watch', 'counter', 'looks flockers')]
['ok', 'even 0 1 1; turn 1 0 1 1', 'ok', 'ok', 'ok', 'none', '- is 1']
>>> journal(desk.bench).split('\n')
['bench 2', 'put 0 even 0 1 1', 'fill 1 1', 'watch 1', 'put 1 turn 1 0 1 1', 'watch']
>>> read_journal(journal(desk.bench)) == desk.bench
True
"""


class Examples(unittest.TestCase):
    def held(self, text, name):
        example = doctest.DocTestParser().get_doctest(text, {}, name, None, 0)
        told = []
        results = doctest.DocTestRunner(verbose=False).run(example, out=told.append)
        self.assertGreater(results.attempted, 0)
        self.assertEqual(results.failed, 0, "".join(told))

    def test_section_4(self):
        self.held(SECTION_4, "section 4")

    def test_section_5(self):
        self.held(SECTION_5, "section 5")

    def test_section_6(self):
        self.held(SECTION_6, "section 6")

    def test_section_7(self):
        self.held(SECTION_7, "section 7")

    def test_section_8(self):
        self.held(SECTION_8, "section 8")

    def test_section_9(self):
        self.held(SECTION_9, "section 9")

    def test_section_10(self):
        self.held(SECTION_10, "section 10")

    def test_section_11(self):
        self.held(SECTION_11, "section 11")

    def test_section_12(self):
        self.held(SECTION_12, "section 12")

    def test_section_13(self):
        self.held(SECTION_13, "section 13")

    def test_section_14(self):
        self.held(SECTION_14, "section 14")

    def test_section_15(self):
        self.held(SECTION_15, "section 15")

    def test_readme(self):
        self.held(README.read_text().replace("```", ""), "README.md")


if __name__ == "__main__":
    unittest.main()
