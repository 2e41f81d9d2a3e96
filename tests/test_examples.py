"""The examples of the document, as they stand there, and those of README.md."""

import doctest
import os
import unittest

README = os.path.join(os.path.dirname(os.path.dirname(os.path.abspath(__file__))), "README.md")

EXAMPLES = {
    "lines": """
>>> from vectorwidths.lines import Line
>>> line = Line('a', 2)
>>> [line.cell(-1, 3), line.distance(4, 0), line.distance(1, 0), line * 3 == Line('a', 6)]
[('a', 5), 2, None, True]
""",
    "statements": """
>>> from vectorwidths.statements import Statement
>>> one = Statement('f', ('a', 1), ('a', 0), ('b', -2))
>>> [len(one), one[1], ('a', 1) in one, one.moved(2).sources]
[2, ('b', -2), True, (('a', 2), ('b', 0))]
""",
    "loops": """
>>> from vectorwidths.loops import Loop
>>> loop = Loop.copying() + Loop.summing()[0]
>>> [len(loop), loop['s'].is_sum, loop.cell(('a', 1), 4), loop.in_order('s', 'f')[0].name]
[2, True, ('a', 5), 's']
""",
}


class Examples(unittest.TestCase):
    def holds(self, name, text):
        """Each result in a text with examples is as it stands there."""
        told = []
        test = doctest.DocTestParser().get_doctest(text, {}, name, None, 0)
        result = doctest.DocTestRunner().run(test, out=told.append)
        self.assertEqual([result.failed, result.attempted > 0], [0, True], "".join(told))

    def test_of_the_document(self):
        for name, text in EXAMPLES.items():
            self.holds(name, text)

    def test_of_the_readme(self):
        with open(README, encoding="utf-8") as file:
            self.holds("README.md", file.read().replace("```", ""))


if __name__ == "__main__":
    unittest.main()
