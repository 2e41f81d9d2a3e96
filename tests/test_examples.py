"""The examples of the document, as they stand there, and those of README.md."""

import doctest
import os
import unittest

README = os.path.join(os.path.dirname(os.path.dirname(os.path.abspath(__file__))), "README.md")

EXAMPLES = {
    "lines": """
>>> from vectorwidths.lines import Line
>>> line = Line('a', 2)
>>> [line.cell(-1, 3), line.distance(4, 0), line.distance(1, 0), line * 3 == Line('a', 6)]
[('a', 5), 2, None, True]
""",
    "statements": """
>>> from vectorwidths.statements import Statement
>>> one = Statement('f', ('a', 1), ('a', 0), ('b', -2))
>>> [len(one), one[1], ('a', 1) in one, one.moved(2).sources]
[2, ('b', -2), True, (('a', 2), ('b', 0))]
""",
    "loops": """
>>> from vectorwidths.loops import Loop
>>> loop = Loop.copying() + Loop.summing()[0]
>>> [len(loop), loop['s'].is_sum, loop.cell(('a', 1), 4), loop.in_order('s', 'f')[0].name]
[2, True, ('a', 5), 's']
""",
    "texts": """
>>> from vectorwidths.loops import Loop
>>> from vectorwidths.texts import read, write
>>> [write(Loop.copying()), read('line a 1\\ns + a@0') == Loop.summing()]
['line a 1\\nf a@1 a@0', True]
""",
    "plain": """
>>> from vectorwidths.loops import Loop
>>> from vectorwidths.plain import plain_origins, plain_writers
>>> [plain_origins(Loop.copying(), 2), plain_writers(Loop.copying(), 1)]
[{(0, 0, 0): None, (0, 1, 0): (0, 0)}, {('a', 1): (0, 0)}]
""",
    "ways": """
>>> from vectorwidths.ways import Way
>>> way = Way(tail='rest', ahead=1)
>>> [way.change('bundles', ((0, 1),))['bundles'], 'tail' in way, way == way.twin()]
[((0, 1),), True, True]
""",
    "wide": """
>>> from vectorwidths.loops import Loop
>>> from vectorwidths.ways import Way
>>> from vectorwidths.wide import blocks, lanes, wide_events
>>> events = list(wide_events(Loop.copying(), Way(), 2, 2))
>>> [events, lanes(Way(), 4, 6, 1), blocks(Way(tail='rest'), 4, 6)]
[[('load', 0, 0, 0), ('load', 0, 1, 0), ('store', 0, 0, 0), ('store', 0, 1, 0)], (4, 5), 1]
""",
    "flows": """
>>> from vectorwidths.loops import Loop
>>> from vectorwidths.ways import Way
>>> from vectorwidths.flows import differences, origin_pair
>>> loop, way = Loop.copying(), Way()
>>> [differences(loop, way, 2, 2), origin_pair(loop, way, 2, 2, (0, 1, 0))]
[[('load', 0, 1, 0)], ((0, 0), None)]
""",
    "distances": """
>>> from vectorwidths.loops import Loop
>>> from vectorwidths.distances import crossings, meets, reach
>>> [meets(Loop.copying()), reach(Loop.copying()), crossings(Loop.copying(), 2)]
[[(0, -1, 0, 0, 1)], 1, [((-1, -1), (1, 0)), ((-1, 0), (1, 1))]]
""",
    "widths": """
>>> from vectorwidths.loops import Loop
>>> from vectorwidths.ways import Way
>>> from vectorwidths.widths import first_wrong, is_safe, safe_widths
>>> loop = Loop.copying()
>>> [first_wrong(loop, Way()), safe_widths(loop, Way()), is_safe(loop, Way.careful(loop))]
[(2, 2, ('load', 0, 1, 0)), ((1,), False), True]
""",
    "touching": """
>>> from vectorwidths.loops import Loop
>>> from vectorwidths.ways import Way
>>> from vectorwidths.touching import first_touch, is_tight
>>> [first_touch(Loop.copying(), Way(tail='whole')), is_tight(Loop.copying(), Way(ahead=3, guard=False))]
[(2, 1, ('a', 2)), True]
""",
    "sums": """
>>> from vectorwidths.ways import Way
>>> from vectorwidths.sums import items_of, least_rules, least_rules_at, wide_sum
>>> way = Way(joining='tree')
>>> [items_of(wide_sum(way, 2, 3)), least_rules_at(way, 2, 2), least_rules(way), least_rules(Way())]
[(0, 2, 1), [('zero',)], [('regroup', 'swap', 'zero')], [()]]
""",
    "bundles": """
>>> from vectorwidths.loops import Loop
>>> from vectorwidths.ways import Way
>>> from vectorwidths.bundles import all_bundles, is_within, least_bundles
>>> [least_bundles(Loop.copying(), Way()), list(all_bundles(2)), is_within(((0, 0),), ((0, 1),))]
[[((0, 0),)], [(), ((0, 0),), ((0, 0), (1, 1)), ((0, 1),), ((1, 1),)], True]
""",
    "overlaps": """
>>> from vectorwidths.lines import Line
>>> from vectorwidths.statements import Statement
>>> from vectorwidths.loops import Loop
>>> from vectorwidths.ways import Way
>>> from vectorwidths.overlaps import width_form
>>> loop = Loop([Line('a'), Line('b')], Statement('f', ('b', 0), ('a', 0)))
>>> form = width_form(loop, Way(), 'a', 'b')
>>> [form[3], form[0], form[-2], len(form), form.shifts()[:2], form.test(8)[-3:]]
[3, None, None, 19, [-9, -8], (0, 8, 9)]
""",
    "alike": """
>>> from vectorwidths.lines import Line
>>> from vectorwidths.statements import Statement
>>> from vectorwidths.loops import Loop
>>> from vectorwidths.alike import alike_orders, first_unlike
>>> loop = Loop([Line('a')], Statement('f', ('a', 0)), Statement('g', None, ('a', 0)))
>>> [alike_orders(loop), first_unlike(loop, loop.in_order('g', 'f'))]
[[('f', 'g')], 1]
""",
    "fusing": """
>>> from vectorwidths.loops import Loop
>>> from vectorwidths.fusing import can_part, first_unfused, fused
>>> loop = fused(Loop.copying(), Loop.summing())
>>> [first_unfused(Loop.copying(), Loop.summing()), can_part(loop), can_part(loop.in_order('s', 'f'))]
[None, [1], []]
""",
    "codes": """
>>> from vectorwidths.loops import Loop
>>> from vectorwidths.codes import compiled
>>> [compiled(Loop.copying()), compiled(Loop.summing(), ((0, 0),))]
[[('load', 0, 'a', 0), ('call', 9, 'f', 0), ('store', 'a', 1, 9)], [('lane', (('load', 0, 'a', 0), ('call', 9, 's', 0), ('add', 's', 9)))]]
""",
    "papers": """
>>> from vectorwidths.loops import Loop
>>> from vectorwidths.ways import Way
>>> from vectorwidths.papers import accepts, paper
>>> loop = Loop.copying()
>>> [paper(loop, Way()), accepts(loop, Way(), paper(loop, Way())), accepts(loop, Way(), ('right', ()))]
[('wrong', 2, 2, ('load', 0, 1, 0)), True, False]
""",
    "changes": """
>>> from vectorwidths.loops import Loop
>>> from vectorwidths.ways import Way
>>> from vectorwidths.changes import least_changes
>>> least_changes(Loop.copying(), Way(), [('ahead', 1), ('bundles', ((0, 0),))])
[(('bundles', ((0, 0),)),)]
""",
    "sessions": """
>>> from vectorwidths.loops import Loop
>>> from vectorwidths.ways import Way
>>> from vectorwidths.sessions import Session
>>> session = Session(Loop.copying(), Way())
>>> told = session.attempt([('change', ('tail', 'rest')), ('change', ('bundles', ((0, 0),)))])
>>> [told, session.verdict(), session.undo(), session.verdict(), session.way.tail]
[(None, None), None, None, (2, 2, ('load', 0, 1, 0)), 'rest']
""",
    "console": """
>>> from vectorwidths.console import Console
>>> console = Console()
>>> lines = ['load line a 1; f a@1 a@0', 'wrong', 'safe', 'bundles 0-0', 'safe', 'rules', 'right 5 9']
>>> [console.run(line) for line in lines]
['ok', '2 2', '1', 'ok', '1 2 3 +', 'none', 'yes']
""",
}


class Examples(unittest.TestCase):
    def holds(self, name, text):
        """Each result in a text with examples is as it stands there."""
        told = []
        test = doctest.DocTestParser().get_doctest(text, {}, name, None, 0)
        result = doctest.DocTestRunner().run(test, out=told.append)
        self.assertEqual([result.failed, result.attempted > 0], [0, True], "".join(told))

    def test_of_the_document(self):
        for name, text in EXAMPLES.items():
            self.holds(name, text)

    def test_of_the_readme(self):
        with open(README, encoding="utf-8") as file:
            self.holds("README.md", file.read().replace("```", ""))


if __name__ == "__main__":
    unittest.main()
