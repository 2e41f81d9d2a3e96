"""Point [21]: fences and places of loads on a free machine."""

import itertools
import random
import unittest

from tests.player import Memory, play_plain, play_wide
from tests.samples import drawn_loops, small_loops
from tests.support import GREAT, Case, no_integers, odd_objects, own_objects
from vectorwidths.distances import reach
from vectorwidths.errors import InvalidNumber
from vectorwidths.fences import bad_places, free_origins, least_fences, serves
from vectorwidths.lines import Line
from vectorwidths.loops import Loop
from vectorwidths.statements import Statement
from vectorwidths.texts import read
from vectorwidths.ways import Way


def play_free(loop, places, w, n):
    """The memory behind a free machine that does the loads of each statement q at the place places[q]."""
    memory = Memory(loop)
    for b in range(-(-n // w)):
        lanes = [i for i in range(b * w, b * w + w) if i < n]
        for r in range(len(loop.statements)):
            for q in range(r, len(loop.statements)):
                if places[q] == r:
                    for i in lanes:
                        memory.load(q, i)
            for i in lanes:
                memory.end(r, i)
    return memory


def usual(loop, number=0, place=0):
    """The places of all statements, the usual ones but for one of them."""
    return [place if q == number else q for q in range(len(loop.statements))]


def cases(loop):
    """All widths and counts up to some above the bounds of point [11]."""
    most = max(2, 2 * reach(loop) + 1) + 1
    return [(w, n) for w in range(1, most + 1) for n in range(2 * w + 2 * reach(loop) + 2)]


def bad_by_play(loop):
    """The bad places, all gone through."""
    found = set()
    for q in range(len(loop.statements)):
        for r in range(q + 1):
            for w, n in cases(loop):
                got, plain = play_free(loop, usual(loop, q, r), w, n).got, play_plain(loop, n).got
                if any(got[load] != plain[load] for load in plain if load[0] == q):
                    found.add((q, r))
    return sorted(found)


def ends_right(loop):
    """Whether all cells end right, for all widths and counts."""
    return all(play_free(loop, usual(loop), w, n).held == play_plain(loop, n).held for w, n in cases(loop))


def sets_of(loop):
    """All sets of fences, those with fewer first."""
    fences = range(1, len(loop.statements))
    return [chosen for many in range(len(fences) + 1) for chosen in itertools.combinations(fences, many)]


def serves_by_play(loop, fences):
    """Whether all choices of places that the fences leave are right, all gone through."""
    allowed = [
        [r for r in range(q + 1) if not any(r < g <= q for g in fences)] for q in range(len(loop.statements))]
    for places in itertools.product(*allowed):
        for w, n in cases(loop):
            free, plain = play_free(loop, places, w, n), play_plain(loop, n)
            if free.got != plain.got or free.held != plain.held:
                return False
    return True


class Origins(Case):
    def test_against_the_player(self):
        draw = random.Random(3)
        for loop in [*small_loops(), *drawn_loops(120, 31, 5), *drawn_loops(30, 32, 5, 9)]:
            for q in range(len(loop)):
                for r in range(q + 1):
                    w, n = draw.randint(1, 6), draw.randint(0, 14)
                    got = play_free(loop, usual(loop, q, r), w, n).got
                    wanted = {load: got[load] for load in sorted(got) if load[0] == q}
                    found = free_origins(loop, q, r, w, n)
                    self.assertEqual(list(found.items()), list(wanted.items()))

    def test_the_own_number_is_the_usual_place(self):
        for loop in drawn_loops(60, 33, 5):
            for q in range(len(loop)):
                usual_loads = play_wide(loop, Way(), 4, 11).got
                wanted = {load: usual_loads[load] for load in usual_loads if load[0] == q}
                self.assertEqual(free_origins(loop, q, q, 4, 11), wanted)

    def test_told(self):
        loop = read('line a 1\nf a@0\ng a@1 a@0')
        self.assertEqual(free_origins(loop, 1, 1, 2, 2), {(1, 0, 0): (0, 0), (1, 1, 0): (0, 1)})
        self.assertEqual(free_origins(loop, 1, 0, 2, 2), {(1, 0, 0): None, (1, 1, 0): None})
        self.assertEqual(free_origins(loop, 1, 0, 2, 3)[1, 2, 0], (1, 1))
        self.assertEqual(free_origins(loop, 0, 0, 2, 3), {})
        self.assertEqual(free_origins(loop, 1, 0, 200, 0), {})
        self.assertEqual(free_origins(count=1, width=2, place=0, number=1, loop=loop), {(1, 0, 0): None})

    def test_errors_in_order(self):
        loop = read('line a 1\nf a@0\ng a@1 a@0\nh a@0')
        wrong_numbers = [-1, GREAT, -GREAT] + no_integers()
        for wrong in [3, *wrong_numbers]:
            self.refuses(InvalidNumber, wrong, free_origins, loop, wrong, None, 0, -1)
        for wrong in [2, *wrong_numbers]:
            self.refuses(InvalidNumber, wrong, free_origins, loop, 1, wrong, None, -1)
        for wrong in [0, 201, *wrong_numbers]:
            self.refuses(InvalidNumber, wrong, free_origins, loop, 1, 0, wrong, None)
        for wrong in [201, *wrong_numbers]:
            self.refuses(InvalidNumber, wrong, free_origins, loop, 1, 1, 1, wrong)
        self.refuses(InvalidNumber, 1, free_origins, loop, 0, 1, 1, 1)
        self.assertEqual(len(free_origins(loop, 1, 1, 200, 200)), 200)


class Fences(Case):
    LOOPS = (
        'line a 1\nf a@0 a@1\ng a@2 a@1', 'line a 1\nf a@0\ng a@1 a@0\nh a@-1 a@1', 'line a 1\nf a@1 a@0\ns + a@1',
        'line a 1\nline b 1\nf a@0 b@1\ng b@0 a@0\nh a@0 a@1', 'line a 1\ns + a@0\nt + a@1\nu + a@-1',
        'line a 1\nf a@0\nu + a@1\ns + a@0', 'line a 2\nf a@1 a@0\ng a@0 a@1\nh a@-2 a@0', 'line a 1\nf a@0\ng a@0 a@0')

    def check(self, loop, deep):
        """All functions against all places, widths and counts."""
        bad = bad_by_play(loop)
        self.assertEqual(bad_places(loop), bad)
        right = ends_right(loop)
        found = [
            fences for fences in sets_of(loop)
            if right and not any(all(not r < g <= q for g in fences) for q, r in bad)]
        if deep:
            self.assertEqual(found, [fences for fences in sets_of(loop) if serves_by_play(loop, fences)])
        for fences in sets_of(loop):
            self.assertIs(serves(loop, fences), fences in found)
        least = [one for one in found if not any(set(other) < set(one) for other in found)]
        self.assertEqual(least_fences(loop), least)

    def test_some_loops(self):
        for text in self.LOOPS:
            self.check(read(text), True)

    def test_small_loops(self):
        for loop in small_loops():
            self.check(loop, False)

    def test_drawn_loops(self):
        for seed, most in ((1, 1), (2, 2)):
            for loop in drawn_loops(25, seed, 4, most):
                self.check(loop, False)

    def test_told(self):
        loop = read('line a 1\nf a@0\ng a@1 a@0')
        self.assertEqual([bad_places(loop), least_fences(loop)], [[(1, 0)], []])
        loop = read('line a 1\nf a@0\ns + a@0')
        self.assertEqual([bad_places(loop), least_fences(loop)], [[(1, 0)], [(1,)]])
        self.assertEqual([serves(loop, ()), serves(loop, (1,))], [False, True])
        self.assertIs(serves(fences=(1,), loop=loop), True)

    def test_one_statement(self):
        self.assertEqual([bad_places(Loop.copying()), least_fences(Loop.copying())], [[(0, 0)], []])
        self.assertEqual([bad_places(Loop.summing()), least_fences(Loop.summing())], [[], [()]])
        self.assertEqual([serves(Loop.copying(), ()), serves(Loop.summing(), ())], [False, True])

    def test_several_least_sets(self):
        # What f stores is loaded by h and i: one fence ahead of h does for both, or each place between.
        loop = read('line a 1\nline b 1\nf a@0\ng b@0\nh + a@0\ni + a@0')
        self.assertEqual(bad_places(loop), [(2, 0), (3, 0)])
        self.assertEqual(least_fences(loop), [(1,), (2,)])
        loop = read('line a 1\nline b 1\nf a@0\ng b@0\nh + a@0\ni + b@0 a@0')
        self.assertEqual(bad_places(loop), [(2, 0), (3, 0), (3, 1)])
        self.assertEqual(least_fences(loop), [(2,), (1, 3)])

    def test_cells_alone(self):
        loop = read('line a 1\nf a@0\ng a@1')
        self.assertEqual([bad_places(loop), least_fences(loop), serves(loop, (1,))], [[], [], False])
        loop = read('line a 1\nf a@1\ng a@0')
        self.assertEqual([bad_places(loop), least_fences(loop), serves(loop, (1,))], [[], [()], True])
        self.assertEqual(least_fences(read('line a 1\nf a@-9\ng a@9')), [])

    def test_no_sets_of_fences(self):
        loop = read('line a 1\nf a@0\ng a@0\nh a@0')
        wrong_sets = [
            (0,), (3,), (1, 1), (2, 1), (-1,), (0, 1), (1, 3), [1], [], (True,), (True, 2), (1, True), (False,), 1, None, "12",
            ("1",), (1, None), ((1,),), {1}, {1: 2}, (1, 2, 3), (GREAT,), (-GREAT, 1), ([],), range(1, 2)]
        for wrong in wrong_sets + [odd for odd in odd_objects() + own_objects() if odd != ()]:
            self.refuses(InvalidNumber, wrong, serves, loop, wrong)
        for wrong in ((1,), (0,), [], (1, 2)):
            self.refuses(InvalidNumber, wrong, serves, Loop.copying(), wrong)
        self.assertIs(serves(loop, (1, 2)), True)

    def test_great_loops(self):
        refs = [("a", 9), ("b", -9), ("c", 0)]
        statements = [Statement(name, ("abc"[at % 3], 9 - at), *refs) for at, name in enumerate("fghij")]
        loop = Loop([Line("a"), Line("b"), Line("c")], *statements)
        self.assertEqual(bad_places(loop), bad_places(loop))
        self.assertEqual(least_fences(loop), [])

    def test_new_lists(self):
        for call in (bad_places, least_fences):
            loop = read('line a 1\nf a@0\ns + a@0')
            self.assertEqual(len(call(loop)), 1)
            call(loop).clear()
            self.assertEqual(len(call(loop)), 1)


if __name__ == "__main__":
    unittest.main()
