"""Point [6]: loops as lines of text."""

import unittest

from tests.samples import drawn_loops, small_loops
from tests.support import Case, odd_objects, own_objects
from vectorwidths.errors import InvalidText
from vectorwidths.lines import Line
from vectorwidths.loops import Loop
from vectorwidths.statements import Statement
from vectorwidths.texts import read, write

PAIRS = [
    ("line a 1\nf a@1 a@0", Loop.copying()),
    ("line a 1\ns + a@0", Loop.summing()),
    ("line a 1\ns +", Loop([Line("a")], Statement("s"))),
    ("line a 1\nf a@-9", Loop([Line("a")], Statement("f", ("a", -9)))),
    ("line a 6\nline abcdefgh 2\nline line 3\nline line@9 a@-9 abcdefgh@0 line@-1\nhgfedcba + a@1 a@2 a@3\ng a@0",
     Loop([Line("a", 6), Line("abcdefgh", 2), Line("line", 3)],
          Statement("line", ("line", 9), ("a", -9), ("abcdefgh", 0), ("line", -1)),
          Statement("hgfedcba", None, ("a", 1), ("a", 2), ("a", 3)), Statement("g", ("a", 0)))),
    ("line a 1\nline + a@0", Loop([Line("a")], Statement("line", None, ("a", 0)))),
    ("line a 1\nline a@0", Loop([Line("a")], Statement("line", ("a", 0)))),
    ("line a 1\nline +", Loop([Line("a")], Statement("line"))),
    ("line line 1\nline line@0 line@1\na +", Loop(
        [Line("line")], Statement("line", ("line", 0), ("line", 1)), Statement("a"))),
    ("line z 5\na +\nb +\nc +\nd +\ne z@4", Loop(
        [Line("z", 5)], Statement("a"), Statement("b"), Statement("c"), Statement("d"), Statement("e", ("z", 4)))),
]
REFUSED = [
    "", "\n", " ", "line", "line a", "line a 1", "line a 1\n", "f a@1 a@0", "f +", "line a 1\n\nf a@1 a@0",
    "\nline a 1\nf a@1 a@0", "line a 1\nf a@1 a@0\n", "line a 1\nf a@1 a@0\n\n", "line a 1\nf a@1 a@0\n\ng a@2",
    "line  a 1\nf a@1 a@0", "line a  1\nf a@1 a@0", "line a 1 \nf a@1 a@0", " line a 1\nf a@1 a@0",
    "line a 1\nf a@1  a@0", "line a 1\nf  a@1 a@0", "line a 1\nf a@1 a@0 ", "line a 1\n f a@1 a@0",
    "line a +1\nf a@1", "line a 01\nf a@1", "line a 1.\nf a@1", "line a -1\nf a@1", "line a x\nf a@1", "line a \nf a@1",
    "line a 0\nf a@1", "line a 7\nf a@1", "line a 11\nf a@1", "line a " + "1" * 5000 + "\nf a@1", "line a 1 1\nf a@1",
    "line a 1\nf a@+1", "line a 1\nf a@-0", "line a 1\nf a@01", "line a 1\nf a@00", "line a 1\nf a@-01",
    "line a 1\nf a@", "line a 1\nf a@-", "line a 1\nf a@x", "line a 1\nf a@1x", "line a 1\nf a@10", "line a 1\nf a@-10",
    "line a 1\nf a@" + "9" * 5000, "line a 1\nf a", "line a 1\nf @1", "line a 1\nf a@@1", "line a 1\nf a@1@1",
    "line a 1\nf a@1 a@10", "line a 1\nf a@1 a@-0", "line a 1\nf a@1 a", "line a 1\nf a@1 +", "line a 1\nf + +",
    "line a 1\nf ++", "line a 1\nf a@1 a @0", "line a 1\nf a@1,a@0", "line a 1\nf a@--1",
    "line A 1\nf A@1", "line abcdefghi 1\nf abcdefghi@1", "line a1 1\nf a1@1", "line  1\nf @1", "Line a 1\nf a@1",
    "line a 1\nF a@1", "line a 1\nabcdefghi a@1", "line a 1\nf1 a@1", "line a 1\n a@1", "line a 1\n+ a@1",
    "line a 1\nf", "line a 1\nf ", "line a 1\nf a@1\ng",
    "line a 1\nf a@1\nline b 1", "line a 1\nf a@1\nline b 1\ng b@0", "f a@1\nline a 1",
    "line a 1\nline b 1\nline c 1\nline d 1\nf a@1", "line a 1\nline a 2\nf a@1", "line a 1\nline a 1\nf a@1",
    "line a 1\na +\nb +\nc +\nd +\ne +\nf +", "line a 1\nf a@1\nf a@2", "line a 1\nf a@1\ng a@1\nf +",
    "line a 1\nf b@1", "line a 1\nf a@1 b@1", "line a 1\nf + b@1", "line a 1\nf a@1\ng + a@0 aa@0",
    "line a 1\nf a@1 a@0 a@0 a@0 a@0", "line a 1\nf + a@0 a@0 a@0 a@0",
    "line a 1; f a@1 a@0", "line a 1\nf a@1 a@0;", "line a 1\n\n", "line a 1\nline a@1 A@0", "x" * 20000, "\n" * 20000,
    "line a 1\n" + "f a@1\n" * 3000, "line a 1\nf a@1" + " a@0" * 4000,
]


class Texts(Case):
    def test_written_and_read_back(self):
        for text, loop in PAIRS:
            self.assertEqual(write(loop), text)
            self.assertEqual(write(loop=loop), text)
            self.equal(read(text), loop)
            self.equal(read(text=text), loop)

    def test_strides_and_offsets(self):
        for stride in range(1, 7):
            for offset in range(-9, 10):
                text = f"line b {stride}\nf b@{offset} b@{-offset}"
                loop = Loop([Line("b", stride)], Statement("f", ("b", offset), ("b", -offset)))
                self.assertEqual(write(loop), text)
                self.equal(read(text), loop)

    def test_many_loops_read_back(self):
        for loop in [*small_loops(), *drawn_loops(200, seed=5)]:
            self.equal(read(write(loop)), loop)

    def test_refused(self):
        for text in REFUSED:
            with self.subTest(text=text[:60]):
                self.refuses(InvalidText, text, read, text)
                self.refuses(InvalidText, text, read, text=text)

    def test_no_strings(self):
        for value in odd_objects() + own_objects() + [0, b"line a 1\nf a@1 a@0", ["line a 1", "f a@1 a@0"]]:
            self.refuses(InvalidText, value, read, value)

    def test_changed_in_one_place(self):
        """Whatever is read is written as the same text."""
        for text, loop in PAIRS:
            for at in range(len(text) + 1):
                for sign in ("", " ", "\n", "0", "1", "-", "+", "@", "a", "A"):
                    for changed in (text[:at] + sign + text[at:], text[:at] + sign + text[at + 1:]):
                        try:
                            found = read(changed)
                        except InvalidText as error:
                            self.assertIs(error.value, changed)
                        else:
                            self.assertEqual(write(found), changed)


if __name__ == "__main__":
    unittest.main()
