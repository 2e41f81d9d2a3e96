"""Stage 16: the console."""

import unittest

from tests.samples import all_ways, drawn_loops, drawn_ways
from tests.support import GREAT, Case, odd_objects, own_objects
from vectorwidths.console import Console
from vectorwidths.errors import InvalidBundles, InvalidCommand, InvalidNumber, InvalidPart, InvalidText, NothingToUndo
from vectorwidths.flows import is_right_at
from vectorwidths.loops import Loop
from vectorwidths.sums import least_rules
from vectorwidths.texts import read, write
from vectorwidths.touching import first_touch
from vectorwidths.ways import Way
from vectorwidths.widths import first_wrong, safe_widths

COPYING = "line a 1; f a@1 a@0"
TWO = "line a 1; line b 2; f a@0 b@-3 b@4; s + a@9"
LOOKING = ["show", "wrong", "safe", "touch", "rules", "right 3 7"]
NO_COMMANDS = [
    "", " ", "  ", "x", "Show", "show ", " show", "show x", "show  ", "wrong ", "wrong 1", "safe 1", "safe ", "touch x", "rules +",
    "undo 1", "undo ", "undo  ", "loads", "load", "LOAD line a 1; s +", " load line a 1; s +", "tail", "tail ", "tail  ", "tail  rest",
    "tail rest ", " tail rest", "tail rest rest", "tail  mask", "joining", "joining ", "joining row tree", "joining  row", "ahead",
    "ahead ", "ahead x", "ahead -1", "ahead +1", "ahead 01", "ahead 00", "ahead 1 ", "ahead  1", "ahead 1 1", "ahead 1.0",
    "ahead " + "1" * 31, "ahead " + "0" * 31, "ahead 0x1", "ahead 1_0", "ahead one", "guard", "guard ", "guard true", "guard True",
    "guard Yes", "guard yes ", "guard yes no", "guard 1", "guard  yes", "bundles ", "bundles  ", "bundles 0", "bundles 0-", "bundles -0",
    "bundles -", "bundles 0-0 ", "bundles  0-0", "bundles 0-0  1-1", "bundles 00-0", "bundles 0-01", "bundles 0--1", "bundles 0-0-0",
    "bundles +0-0", "bundles 0-0,1-1", "bundles 0-0 1", "bundles a-b", "bundles (0,0)", "bundles " + "1" * 31 + "-2",
    "bundles 0-" + "1" * 31, "bundles 0 - 0", "right", "right ", "right 1", "right 1 ", "right  1 2", "right 1  2", "right 1 2 ",
    "right 1 2 3", "right 01 2", "right 1 02", "right 1 00", "right -1 2", "right 1 -2", "right +1 2", "right 1 x", "right x 1",
    "right 1,2", "right " + "1" * 31 + " 2", "right 1 " + "1" * 31, "loop", "change tail rest", "replace " + COPYING, "verdict",
    "help", "tail=rest", "show;", "show; wrong", "x" * 20000, " " * 20000]
NO_LINES = [0, 1, GREAT, ["show"], ("show",), b"show", "show\n", "\nshow", "load line a 1\ns +", "load \n", "tail rest\n", "\n"] + [
    odd for odd in odd_objects() + own_objects() if not isinstance(odd, str) or "\n" in odd]


def loaded(text=COPYING):
    """A console with a loop."""
    console = Console()
    console.run("load " + text)
    return console


def state_of(console):
    """All that the console tells of the loop and the way."""
    return [console.run(line) for line in LOOKING]


class Commands(Case):
    def answers(self, console, *lines):
        """The answers to some lines, one after the other."""
        return [console.run(line) for line in lines]

    def stays(self, console, kind, field, line):
        """The line raises this error, and what is there stays."""
        before = state_of(console)
        with self.assertRaises(kind) as caught:
            console.run(line)
        self.assertIs(caught.exception.__class__, kind)
        if kind is not NothingToUndo:
            self.assertEqual(caught.exception.value, field)
            self.assertIs(caught.exception.value.__class__, field.__class__)
        self.assertEqual(state_of(console), before)

    def test_load_and_show(self):
        console = Console()
        self.assertEqual(console.run("load " + COPYING), "ok")
        self.assertEqual(console.run("show"), COPYING)
        self.assertEqual(console.run(line="load " + TWO), "ok")
        self.assertEqual(console.run("show"), TWO)
        for loop in drawn_loops(30, 11):
            text = write(loop).replace("\n", "; ")
            self.assertEqual(self.answers(console, "load " + text, "show"), ["ok", text])

    def test_load_begins_anew(self):
        console = loaded()
        self.answers(console, "tail rest", "ahead 2", "guard no", "bundles 0-0", "joining tree")
        other = state_of(console)
        self.assertEqual(console.run("load " + COPYING), "ok")
        self.assertEqual(state_of(console), state_of(loaded()))
        self.assertNotEqual(state_of(console), other)
        self.stays(console, NothingToUndo, None, "undo")

    def test_texts_that_are_none(self):
        for text, feeds in (
                ("", ""), (" ", " "), ("x", "x"), ("line a 1", "line a 1"), ("line a 1;f a@0", "line a 1;f a@0"),
                ("line a 1;  f a@0", "line a 1\n f a@0"), ("line a 1; ; f a@0", "line a 1\n\nf a@0"), ("; ", "\n"), ("; ; ", "\n\n"),
                (";; ", ";\n"), (";  ", "\n "), (" " + COPYING, " line a 1\nf a@1 a@0"), (COPYING + "; ", "line a 1\nf a@1 a@0\n"),
                (COPYING + ";", "line a 1\nf a@1 a@0;"), (COPYING + " ", "line a 1\nf a@1 a@0 "), ("line a 1; f b@0", "line a 1\nf b@0"),
                ("line a 7; s +", "line a 7\ns +"), ("line a 1; s + a@10", "line a 1\ns + a@10")):
            console = Console()
            for _ in range(2):
                with self.assertRaises(InvalidText) as caught:
                    console.run("load " + text)
                self.assertEqual(caught.exception.value, feeds)
                self.refuses(InvalidCommand, "show", console.run, "show")
            console = loaded()
            console.run("tail rest")
            self.stays(console, InvalidText, feeds, "load " + text)
            # What can be undone stays, too.
            self.assertEqual(console.run("undo"), "ok")
            self.assertEqual(state_of(console), state_of(loaded()))
            self.stays(console, NothingToUndo, None, "undo")

    def test_only_load_before_a_loop_is_loaded(self):
        console = Console()
        for line in [*LOOKING, "tail rest", "joining row", "ahead 0", "ahead 9", "guard yes", "bundles", "bundles 0-0", "undo", *NO_COMMANDS]:
            self.refuses(InvalidCommand, line, console.run, line)
        for line in NO_LINES:
            self.refuses(InvalidCommand, line, console.run, line)
        with self.assertRaises(InvalidText):
            console.run("load x")
        self.refuses(InvalidCommand, "undo", console.run, "undo")
        self.assertEqual(console.run("load " + COPYING), "ok")
        self.assertEqual(console.run("show"), COPYING)

    def test_no_commands(self):
        console = loaded()
        console.run("ahead 1")
        before = state_of(console)
        for line in NO_COMMANDS + NO_LINES:
            self.refuses(InvalidCommand, line, console.run, line)
        self.assertEqual(state_of(console), before)
        self.assertEqual(console.run("undo"), "ok")
        self.assertEqual(state_of(console), state_of(loaded()))
        with self.assertRaises(NothingToUndo):
            console.run("undo")

    def told(self, loop, way):
        """The answers that the functions give, called directly."""
        widths, beyond = safe_widths(loop, way)
        wrong, touch = first_wrong(loop, way), first_touch(loop, way)
        return [
            write(loop).replace("\n", "; "), "-" if wrong is None else f"{wrong[0]} {wrong[1]}",
            " ".join([str(width) for width in widths] + ["+"] * beyond) or "-", "-" if touch is None else f"{touch[0]} {touch[1]}",
            " ".join(",".join(rules) or "none" for rules in least_rules(way)) or "-", "yes" if is_right_at(loop, way, 3, 7) else "no"]

    def set_up(self, loop, way):
        """A console with a loop and a way."""
        console = loaded(write(loop).replace("\n", "; "))
        bundles = "".join(f" {first}-{last}" for first, last in way.bundles)
        self.assertEqual(self.answers(
            console, f"tail {way.tail}", f"ahead {way.ahead}", "guard yes" if way.guard else "guard no", "bundles" + bundles,
            f"joining {way.joining}"), ["ok"] * 5)
        return console

    def test_against_the_functions(self):
        answers = set()
        for number, loop in enumerate([Loop.copying(), Loop.summing(), *drawn_loops(40, 12)]):
            ways = all_ways(loop) if number < 2 else drawn_ways(loop, 3, number)
            for at, way in enumerate(ways):
                way.joining = ("row", "parts", "tree")[at % 3]
                console = self.set_up(loop, way)
                self.assertEqual(state_of(console), self.told(loop, way))
                answers.update(enumerate(state_of(console)[1:]))
                for width, count in ((1, 0), (1, 5), (2, 2), (2, 9), (200, 200)):
                    self.assertEqual(console.run(f"right {width} {count}"), "yes" if is_right_at(loop, way, width, count) else "no")
        self.assertLessEqual({(0, "-"), (0, "2 2"), (1, "1 2 +"), (1, "1"), (2, "-"), (2, "2 1"), (4, "yes"), (4, "no")}, answers)

    def test_answers(self):
        console = loaded()
        self.assertEqual(state_of(console), [COPYING, "2 2", "1", "-", "none", "no"])
        self.assertEqual(self.answers(console, "bundles 0-0", "wrong", "safe", "right 5 9"), ["ok", "-", "1 2 3 +", "yes"])
        self.assertEqual(self.answers(console, "tail whole", "wrong", "safe", "touch"), ["ok", "2 1", "1", "2 1"])
        self.assertEqual(self.answers(console, "joining tree", "rules"), ["ok", "-"])
        self.assertEqual(self.answers(console, "tail rest", "rules"), ["ok", "regroup,swap,zero"])
        self.assertEqual(self.answers(console, "joining row", "tail mask", "rules"), ["ok", "ok", "none"])
        console = loaded("line a 1; s + a@0")
        self.assertEqual(self.answers(console, "tail rest", "ahead 1", "guard no", "touch", "wrong"), ["ok", "ok", "ok", "1 1", "-"])
        # No width at all is safe if loads come ahead of the store of the iteration before.
        self.assertEqual(self.answers(loaded(), "ahead 1", "safe", "wrong"), ["ok", "-", "1 2"])

    def test_the_parts(self):
        console = loaded(TWO)
        way = Way()
        for line, part, value in (
                ("tail rest", "tail", "rest"), ("tail whole", "tail", "whole"), ("tail mask", "tail", "mask"),
                ("joining parts", "joining", "parts"), ("joining tree", "joining", "tree"), ("joining row", "joining", "row"),
                ("ahead 3", "ahead", 3), ("ahead 1", "ahead", 1), ("tail rest", "tail", "rest"), ("guard no", "guard", False),
                ("guard yes", "guard", True), ("guard no", "guard", False), ("bundles 0-1", "bundles", ((0, 1),)),
                ("bundles 0-0 1-1", "bundles", ((0, 0), (1, 1))), ("bundles 1-1", "bundles", ((1, 1),)), ("bundles", "bundles", ())):
            self.assertEqual(console.run(line), "ok")
            way[part] = value
            self.assertEqual(state_of(console), self.told(read(TWO.replace("; ", "\n")), way))

    def test_values_that_are_not_allowed(self):
        console = loaded(TWO)
        self.answers(console, "tail rest", "bundles 1-1")
        thirty = "1" * 30
        for line, part in (
                ("tail row", "tail"), ("tail x", "tail"), ("tail Mask", "tail"), ("tail 0", "tail"), ("joining mask", "joining"),
                ("joining +", "joining"), ("ahead 4", "ahead"), ("ahead 10", "ahead"), ("ahead " + thirty, "ahead"),
                ("bundles 1-0", "bundles"), ("bundles 0-5", "bundles"), ("bundles 5-5", "bundles"), ("bundles 0-0 0-1", "bundles"),
                ("bundles 1-1 0-0", "bundles"), (f"bundles 0-{thirty}", "bundles"), ("bundles 0-0 0-0 0-0 0-0 0-0 0-0", "bundles"),
                ("bundles 0-1 1-1", "bundles")):
            self.stays(console, InvalidPart, part, line)
        for line, bundles in (
                ("bundles 0-2", ((0, 2),)), ("bundles 0-0 2-4", ((0, 0), (2, 4))), ("bundles 4-4", ((4, 4),)),
                ("bundles 0-0 1-1 2-2 3-3 4-4", tuple((at, at) for at in range(5)))):
            self.stays(console, InvalidBundles, bundles, line)
        self.assertEqual(self.answers(console, "undo", "undo"), ["ok", "ok"])
        self.stays(console, NothingToUndo, None, "undo")

    def test_numbers_of_right(self):
        console = loaded()
        thirty = "9" * 30
        for line, number in (
                ("right 0 0", 0), ("right 201 0", 201), ("right 1 201", 201), (f"right {thirty} 1", int(thirty)),
                (f"right 200 {thirty}", int(thirty)), ("right 0 999", 0)):
            self.stays(console, InvalidNumber, number, line)
        self.assertEqual(self.answers(console, "right 200 200", "right 1 200", "right 1 0", "right 200 0"), ["no", "yes", "yes", "yes"])

    def test_undo(self):
        console = loaded()
        states = [state_of(console)]
        lines = ["tail whole", "ahead 2", "ahead 2", "guard no", "bundles 0-0", "bundles", "joining tree"]
        for line in lines:
            console.run(line)
            states.append(state_of(console))
        for state in states[-2::-1]:
            self.assertEqual(console.run("undo"), "ok")
            self.assertEqual(state_of(console), state)
        for _ in range(2):
            self.stays(console, NothingToUndo, None, "undo")

    def test_consoles_are_apart(self):
        one, other = loaded(), loaded(TWO)
        one.run("tail rest")
        self.assertEqual([one.run("show"), other.run("show")], [COPYING, TWO])
        self.stays(other, NothingToUndo, None, "undo")
        self.refuses(InvalidCommand, "show", Console().run, "show")


if __name__ == "__main__":
    unittest.main()
