"""Stage 16: notes."""

import unittest

from tests.support import GREAT, Case, odd_objects, own_objects
from vectorwidths.alike import are_alike
from vectorwidths.errors import InvalidLoop, InvalidName
from vectorwidths.loops import Loop
from vectorwidths.notes import Notes
from vectorwidths.texts import read

TEXTS = {
    "f": "line a 1\nline b 1\nf a@0\ng b@0", "abcdefgh": "line b 1\nline a 1\ng b@0\nf a@0", "z": "line a 1\nf a@0\ns + a@0",
    "b": "line a 1\ns + a@0\nf a@0", "a": "line a 1\nline b 1\ng b@0\nf a@0"}
NO_NAMES = [0, 1, GREAT] + odd_objects() + own_objects()


def filled():
    """Notes with some loops."""
    notes = Notes()
    for name, text in TEXTS.items():
        notes[name] = read(text)
    return notes


class NotesOfLoops(Case):
    def test_empty(self):
        notes = Notes()
        self.assertEqual([len(notes), notes.names(), notes.alike_to(Loop.copying()), "a" in notes], [0, (), (), False])
        self.refuses(InvalidName, "a", lambda: notes["a"])
        self.assertEqual(len(filled()), 5)
        self.assertEqual(len(Notes()), 0)

    def test_put_and_read(self):
        notes = Notes()
        loop = Loop.copying()
        notes["b"] = loop
        self.equal(notes["b"], Loop.copying())
        notes["a"] = Loop.summing()
        self.assertEqual([len(notes), notes.names()], [2, ("a", "b")])
        self.equal(notes["b"], Loop.copying())
        self.equal(notes["a"], Loop.summing())

    def test_put_again(self):
        notes = Notes()
        notes["a"] = Loop.copying()
        notes["b"] = Loop.copying()
        notes["a"] = Loop.summing()
        self.assertEqual([len(notes), notes.names()], [2, ("a", "b")])
        self.equal(notes["a"], Loop.summing())
        self.equal(notes["b"], Loop.copying())

    def test_in(self):
        notes = filled()
        for name in TEXTS:
            self.assertIs(name in notes, True)
        for value in ["x", "ab", "g"] + NO_NAMES:
            self.assertIs(value in notes, False)

    def test_names(self):
        self.assertEqual(filled().names(), ("a", "abcdefgh", "b", "f", "z"))
        self.assertIs(filled().names().__class__, tuple)

    def test_alike_to(self):
        notes = filled()
        self.assertEqual(notes.alike_to(read(TEXTS["f"])), ("a", "abcdefgh", "f"))
        self.assertEqual(notes.alike_to(loop=read(TEXTS["z"])), ("z",))
        self.assertEqual(notes.alike_to(read(TEXTS["b"])), ("b",))
        self.assertEqual(notes.alike_to(Loop.copying()), ())
        for text in TEXTS.values():
            wanted = tuple(sorted(name for name, other in TEXTS.items() if are_alike(read(other), read(text))))
            self.assertEqual(notes.alike_to(read(text)), wanted)
        self.assertEqual(notes.names(), ("a", "abcdefgh", "b", "f", "z"))

    def test_wrong_names_and_loops(self):
        notes = filled()
        for wrong in NO_NAMES:
            self.refuses(InvalidName, wrong, notes.__setitem__, wrong, Loop.copying())
            self.refuses(InvalidName, wrong, notes.__setitem__, wrong, None)
        for wrong in ["f", TEXTS["f"], Loop, 0] + odd_objects() + [one for one in own_objects() if not isinstance(one, Loop)]:
            self.refuses(InvalidLoop, wrong, notes.__setitem__, "a", wrong)
            self.refuses(InvalidLoop, wrong, notes.__setitem__, "new", wrong)
        self.assertEqual([len(notes), notes.names()], [5, ("a", "abcdefgh", "b", "f", "z")])
        for name, text in TEXTS.items():
            self.equal(notes[name], read(text))

    def test_names_without_a_loop(self):
        notes = filled()
        for wrong in ["x", "ab", "g", "abcdefg"] + NO_NAMES:
            self.refuses(InvalidName, wrong, lambda: notes[wrong])
        self.assertEqual(len(notes), 5)

    def test_cannot_be_iterated(self):
        self.cannot_be_iterated(filled())
        self.cannot_be_iterated(Notes())


if __name__ == "__main__":
    unittest.main()
