"""Points [16]: loops turned about and unrolled."""

import unittest

from tests.player import Memory, play_plain
from tests.samples import drawn_loops, small_loops
from tests.support import GREAT, Case, no_integers
from vectorwidths.errors import InvalidName, InvalidNumber, InvalidRef, InvalidStatement
from vectorwidths.lines import Line
from vectorwidths.loops import Loop
from vectorwidths.plain import plain_origins, plain_writers
from vectorwidths.statements import Statement
from vectorwidths.texts import read
from vectorwidths.turning import first_unturned, turned_origins, unrolled


def play_turned(loop, n):
    """The memory behind the iterations from the last one to the first one."""
    memory = Memory(loop)
    for i in range(n - 1, -1, -1):
        for j in range(len(loop.statements)):
            memory.step(j, i)
    return memory


def first_by_play(loop, up_to):
    """The least count at which it differs from the plain loop, up to one that is great enough."""
    for n in range(up_to):
        plain, turned = play_plain(loop, n), play_turned(loop, n)
        if plain.got != turned.got or plain.held != turned.held:
            return n
    return None


class Turned(Case):
    def test_origins_against_events(self):
        for loop in [*small_loops(), *drawn_loops(60, 21, 4), *drawn_loops(20, 22, 4, 9)]:
            for n in (0, 1, 2, 3, 7, 20):
                self.assertEqual(list(turned_origins(loop, n).items()), list(play_turned(loop, n).got.items()))

    def test_origins(self):
        self.assertEqual(turned_origins(Loop.copying(), 3), {(0, i, 0): None for i in range(3)})
        self.assertEqual(turned_origins(read('line a 1\nf a@0 a@1'), 3), {
            (0, 2, 0): None, (0, 1, 0): (0, 2), (0, 0, 0): (0, 1)})
        self.assertEqual(turned_origins(read('line a 1\nf a@0\ns + a@0'), 2), {(1, 1, 0): (0, 1), (1, 0, 0): (0, 0)})
        self.assertEqual(turned_origins(count=0, loop=Loop.copying()), {})
        self.assertEqual(len(turned_origins(Loop.copying(), 200)), 200)
        turned_origins(Loop.copying(), 3).clear()
        self.assertEqual(len(turned_origins(Loop.copying(), 3)), 3)

    def test_wrong_counts(self):
        for wrong in [-1, 201, GREAT, -GREAT] + no_integers():
            self.refuses(InvalidNumber, wrong, turned_origins, Loop.copying(), wrong)

    def test_first_unturned_against_events(self):
        found = []
        for most in (1, 2, 3):
            for loop in [*drawn_loops(60, 30 + most, 4, most), *small_loops()]:
                wanted = first_by_play(loop, 20)
                self.assertEqual(first_unturned(loop), wanted)
                found.append(wanted)
        for loop in drawn_loops(25, 39, 2, 9):
            wanted = first_by_play(loop, 42)
            self.assertEqual(first_unturned(loop), wanted)
            found.append(wanted)
        self.assertGreater(len(set(found)), 5)

    def test_first_unturned(self):
        self.assertEqual(first_unturned(Loop.copying()), 2)
        self.assertEqual(first_unturned(read('line a 1\nf a@0 a@1')), 2)
        # The last writers alone differ.
        self.assertEqual(first_unturned(read('line a 1\nf a@0\ng a@2')), 3)
        self.assertEqual(first_unturned(read('line a 1\nf a@9 a@-9')), 19)
        self.assertEqual(first_unturned(read('line a 2\nf a@-9\ns + a@9')), 10)

    def test_nothing_is_carried(self):
        for text in ('line a 1\nf a@0 a@0\ns + a@0', 'line a 2\nf a@0 a@1 a@-1', 'line a 1\ns + a@0 a@1', 'line a 1\ns +',
                     'line a 1\nline b 1\nf a@0 b@0 b@1', 'line a 1\nf a@3\ng a@3 a@3'):
            self.assertEqual(first_unturned(read(text)), None)
            self.assertEqual(first_unturned(loop=read(text)), None)


class Unrolled(Case):
    def test_told(self):
        loop = read('line a 1\nline b 2\nf a@1 a@0\ns + b@-3 a@9')
        self.equal(unrolled(Loop.copying(), 1), read('line a 1\nfa a@1 a@0'))
        self.equal(unrolled(Loop.copying(), 5), read(
            'line a 5\nfa a@1 a@0\nfb a@2 a@1\nfc a@3 a@2\nfd a@4 a@3\nfe a@5 a@4'))
        self.equal(unrolled(loop, 1), read('line a 1\nline b 2\nfa a@1 a@0\nsa + b@-3 a@9'))
        loop = read('line a 1\nline b 2\nf a@1 a@0\ns + b@-3 a@-9')
        self.equal(unrolled(times=2, loop=loop), read(
            'line a 2\nline b 4\nfa a@1 a@0\nsa + b@-3 a@-9\nfb a@2 a@1\nsb + b@-1 a@-8'))
        self.equal(loop, read('line a 1\nline b 2\nf a@1 a@0\ns + b@-3 a@-9'))
        self.equal(unrolled(read('line a 1\nabcdefg +\nf +'), 2), read(
            'line a 2\nabcdefga +\nfa +\nabcdefgb +\nfb +'))

    def test_numbers(self):
        for wrong in [0, 6, -1, GREAT] + no_integers():
            self.refuses(InvalidNumber, wrong, unrolled, Loop.copying(), wrong)

    def raises(self, kind, value, text, times):
        """An error with a field that is equal to this."""
        with self.assertRaises(kind) as caught:
            unrolled(read(text), times)
        self.assertIs(caught.exception.__class__, kind)
        self.assertEqual(caught.exception.value, value)

    def test_errors_of_lines_first(self):
        self.raises(InvalidNumber, 10, 'line a 2\nninechar a@9', 5)
        self.raises(InvalidNumber, 8, 'line a 1\nline b 4\nline c 6\nninechar a@9', 2)
        self.raises(InvalidNumber, 30, 'line a 6\nf +', 5)
        self.assertEqual([line.stride for line in unrolled(read('line a 2\nline b 1\nf +'), 3).lines], [6, 3])

    def test_errors_of_statements(self):
        self.raises(InvalidName, "ninechara", 'line a 1\nf a@0\nninechar a@9', 2)
        self.raises(InvalidName, "ninechara", 'line a 1\nninechar a@0', 1)
        self.raises(InvalidRef, ("a", 10), 'line a 1\nf a@9 a@9', 2)
        self.raises(InvalidRef, ("b", 10), 'line a 1\nline b 2\nf a@0 a@1 b@8\ng a@9', 2)
        self.raises(InvalidRef, ("a", 10), 'line a 1\nf a@0\ng + a@0 a@8', 4)
        # All statements of one iteration are made ahead of those of the next one.
        self.raises(InvalidName, "ninechara", 'line a 1\nf a@9\nninechar a@0', 2)

    def test_errors_of_loops(self):
        for text, times in (('line a 1\nf a@0\ng a@0', 3), ('line a 1\nf a@0\ng a@0\nh a@0', 2)):
            loop = read(text)
            with self.assertRaises(InvalidStatement) as caught:
                unrolled(loop, times)
            value = caught.exception.value
            self.assertIsInstance(value, tuple)
            self.assertEqual([one.name for one in value], [
                one.name + letter for letter in "abcde"[:times] for one in loop.statements])
        self.raises(InvalidRef, ("a", 10), 'line a 1\nf a@0\ng a@9\nh a@0', 2)

    def check(self, loop, times):
        """The plain loop of the unrolled one is that of the loop, with so many times the count."""
        one, many = unrolled(loop, times), len(loop.statements)
        for n in (0, 1, 2, 5):
            def place(j, i):
                return (j % many, i * times + j // many)

            told = {None: None}
            told.update({(j, i): place(j, i) for j in range(len(one.statements)) for i in range(n)})
            self.assertEqual(
                {(*place(j, i), k): told[origin] for (j, i, k), origin in plain_origins(one, n).items()},
                plain_origins(loop, n * times))
            self.assertEqual(
                {cell: told[writer] for cell, writer in plain_writers(one, n).items()}, plain_writers(loop, n * times))

    def test_plain_loops(self):
        for loop in drawn_loops(120, 44, 2, 4):
            for times in range(1, 6):
                if len(loop) * times <= 5 and max(line.stride for line in loop.lines) * times <= 6:
                    refs = [ref for one in loop.statements for ref in (*one.sources, one.target) if ref is not None]
                    if max([offset + loop.line(line).stride * (times - 1) for line, offset in refs] + [0]) <= 9:
                        self.check(loop, times)
        self.check(Loop([Line("a")], Statement("f", ("a", 1), ("a", 0), ("a", -9))), 5)


if __name__ == "__main__":
    unittest.main()
