"""Points [1] and [2] over the whole program: arguments by position and by name, results, and arguments that stay.

Each function and method of the interface is called here, with arguments that are made anew each time."""

import copy
import importlib
import inspect
import types
import unittest

from tests.test_interface import INTERFACE
from vectorwidths.console import Console
from vectorwidths.lines import Line
from vectorwidths.loops import Loop
from vectorwidths.machines import Machine
from vectorwidths.notes import Notes
from vectorwidths.overlaps import Form
from vectorwidths.sessions import Session
from vectorwidths.statements import Statement
from vectorwidths.texts import read
from vectorwidths.ways import Way

TEXT = "line a 1\nline b 1\nf a@2 a@0\ng b@0 b@1\ns + a@1"
TERM = ("add", ("item", 0), ("add", ("item", 1), ("zero",)))


def plus_one(i, values):
    """One more than the sum of the values."""
    return sum(values) + 1


def functions():
    """Functions for the loop of these tests."""
    return {"f": plus_one, "g": plus_one, "s": plus_one}


def loop():
    """A loop of three statements."""
    return read(TEXT)


def other():
    """The same statements in another order."""
    return read("line b 1\nline a 1\ng b@0 b@1\nf a@2 a@0\ns + a@1")


def way():
    """A way that is right for the loop."""
    return Way(tail="rest", bundles=((0, 0),))


def loose():
    """A way that touches cells beyond the end."""
    return Way(tail="rest", ahead=1, guard=False)


def notes():
    """Notes with two loops."""
    made = Notes()
    made["y"] = loop()
    made["x"] = other()
    return made


def session():
    """A session with something to undo."""
    made = Session(loop(), way())
    made.change("ahead", 1)
    return made


def console():
    """A console with a loop."""
    made = Console()
    made.run("load " + TEXT.replace("\n", "; "))
    return made


def sessions():
    """Two sessions."""
    return [session(), session()]


ERRORS = {f"errors.{name}": {wanted: list} for name, wanted in INTERFACE["errors"].items() if wanted}
WIDE = {"loop": loop, "way": way, "width": 3, "count": 7}
BOTH = {"loop": loop, "way": way}
LOOP = {"loop": loop}
CALLS = {
    **ERRORS, "errors.NothingToUndo": {},
    "lines.is_name": {"value": "a"}, "lines.is_ref": {"value": ("a", 0)}, "lines.Line": {"name": "a", "stride": 2},
    "statements.Statement": {"name": "f", "target": ("a", 0)}, "texts.write": LOOP, "texts.read": {"text": TEXT},
    **{"plain." + name: {"loop": loop, "count": 3} for name in INTERFACE["plain"]},
    **{"wide." + name: WIDE for name in INTERFACE["wide"] if name.startswith("wide_")},
    "wide.blocks": {"way": way, "width": 3, "count": 7}, "wide.lanes": {"way": way, "width": 3, "count": 7, "block": 1},
    "flows.differences": {"loop": loop, "way": Way, "width": 3, "count": 7}, "flows.is_right_at": WIDE,
    "flows.origin_pair": {**WIDE, "load": (0, 4, 0)}, "distances.meets": LOOP, "distances.reach": LOOP,
    "distances.crossings": {"loop": loop, "width": 2}, "widths.last_count": {**BOTH, "width": 2},
    "widths.first_count": {"loop": loop, "way": Way, "width": 4}, "widths.first_wrong": {"loop": loop, "way": Way},
    "widths.safe_widths": BOTH, "widths.is_safe": BOTH, "widths.greatest_safe": {"loop": loop, "way": Way},
    "touching.touches": {"loop": loop, "way": loose, "width": 3, "count": 7},
    "touching.first_touch": {"loop": loop, "way": loose}, "touching.is_tight": BOTH,
    "sums.is_term": {"value": TERM}, "sums.plain_sum": {"count": 3}, "sums.wide_sum": {"way": way, "width": 2, "count": 3},
    "sums.items_of": {"term": TERM}, "sums.are_equal": {"one": TERM, "other": ("item", 0), "rules": ("zero",)},
    "sums.least_rules_at": {"way": lambda: Way(joining="tree"), "width": 2, "count": 2},
    "sums.least_rules_for": {"way": lambda: Way(joining="parts"), "width": 2},
    "sums.least_rules": {"way": lambda: Way(joining="tree")}, "ahead.safe_aheads": BOTH,
    "ahead.early_loads": {"loop": loop, "way": Way}, "bundles.all_bundles": {"many": 2},
    "bundles.is_within": {"one": ((0, 0),), "other": ((0, 1),)}, "bundles.least_bundles": BOTH,
    "fences.free_origins": {"loop": loop, "number": 2, "place": 0, "width": 2, "count": 5}, "fences.bad_places": LOOP,
    "fences.serves": {"loop": loop, "fences": (1, 2)}, "fences.least_fences": {"loop": lambda: read("line a 1\nf a@0\ns + a@0")},
    "overlaps.overlapped": {"loop": loop, "first": "a", "second": "b", "shift": 2},
    "overlaps.Form": {"values": lambda: {0: 1, 1: None}}, "overlaps.width_form": {**BOTH, "first": "a", "second": "b"},
    "alike.are_alike": {"one": loop, "other": other}, "alike.first_unlike": {"one": loop, "other": other},
    "alike.alike_orders": LOOP, "alike.safe_order": BOTH,
    "fusing.fused": {"one": loop, "other": lambda: read("line c 1\nx c@0")}, "fusing.parted": {"loop": loop, "at": 1},
    "fusing.first_unfused": {"one": Loop.summing, "other": Loop.copying}, "fusing.can_part": LOOP,
    "turning.turned_origins": {"loop": loop, "count": 3}, "turning.first_unturned": LOOP,
    "turning.unrolled": {"loop": Loop.copying, "times": 3}, "codes.is_code": {"value": lambda: [("add", "s", 0)]},
    "codes.compiled": {"loop": loop, "bundles": ((1, 2),)}, "machines.Machine": {"width": 2, "cells": lambda: {("a", 0): 1}},
    "machines.played": {"loop": loop, "functions": functions, "count": 3, "cells": lambda: {("a", 0): 1}},
    "papers.paper": BOTH, "papers.accepts": {**BOTH, "value": lambda: [1]},
    "changes.edited": {**BOTH, "edits": lambda: [("ahead", 1), ("order", ("s", "g", "f"))]},
    "changes.least_changes": {"loop": loop, "way": Way, "menu": lambda: [("ahead", 1), ("bundles", ((0, 0),))]},
    "notes.Notes": {}, "sessions.Session": BOTH, "console.Console": {},
}
METHODS = {
    "lines.Line.cell": (lambda: Line("a", 2), {"offset": 1, "at": 3}),
    "lines.Line.distance": (lambda: Line("a", 2), {"first": 4, "second": 0}),
    "statements.Statement.moved": (lambda: Statement("f", ("a", 1)), {"by": 2}), "loops.Loop.line": (loop, {"name": "a"}),
    "loops.Loop.cell": (loop, {"ref": ("a", 1), "at": 2}), "ways.Way.change": (way, {"part": "ahead", "value": 2}),
    "ways.Way.twin": (way, {}), "ways.Way.goes_with": (way, {"loop": loop}),
    "overlaps.Form.shifts": (lambda: Form({0: 1, 2: None}), {}),
    "overlaps.Form.is_under": (lambda: Form({0: 1}), {"other": lambda: Form({0: 2})}),
    "overlaps.Form.test": (lambda: Form({0: 1, 2: None}), {"width": 2}),
    "machines.Machine.cells": (lambda: Machine(2, {("a", 0): 1}), {}),
    "machines.Machine.__call__": (lambda: Machine(2, functions=functions()), {
        "code": lambda: [("call", 0, "f"), ("store", "a", 0, 0), ("add", "s", 0)], "loop": loop, "count": 3}),
    "notes.Notes.names": (notes, {}), "notes.Notes.alike_to": (notes, {"loop": loop}),
    "sessions.Session.change": (session, {"part": "tail", "value": "mask"}), "sessions.Session.replace": (session, {"loop": other}),
    "sessions.Session.verdict": (session, {}), "sessions.Session.undo": (session, {}),
    "sessions.Session.attempt": (session, {"deeds": lambda: [("undo", 0), ("change", ("tail", "mask"))]}),
    "console.Console.run": (console, {"line": "safe"}),
}
# These change what they are called of, so that a second call does something else.
CHANGING = {
    "ways.Way.change", "machines.Machine.__call__", "sessions.Session.change", "sessions.Session.replace",
    "sessions.Session.undo", "sessions.Session.attempt"}
# Their arguments have no names, or come by name alone.
OTHERS = {"loops.Loop", "loops.Loop.in_order", "ways.Way", "sessions.together"}


def seen(thing):
    """What can be seen of a thing, in a form that can be compared."""
    if isinstance(thing, (list, tuple)):
        return (thing.__class__, [seen(part) for part in thing])
    if isinstance(thing, dict):
        return (dict, [(key, seen(part)) for key, part in thing.items()])
    if isinstance(thing, types.GeneratorType):
        return seen(list(thing))
    if isinstance(thing, Machine):
        return (Machine, thing.width, seen(thing.cells()), seen(thing.sums), seen(thing.functions))
    if isinstance(thing, Session):
        return (Session, seen(thing.loop), seen(thing.way))
    if isinstance(thing, Notes):
        return (Notes, [(name, thing[name]) for name in thing.names()])
    if isinstance(thing, Console):
        return Console
    if isinstance(thing, Exception):
        return (thing.__class__, seen(thing.__dict__))
    return (thing.__class__, thing)


def made(arguments):
    """The arguments, those that can be changed made anew."""
    return {name: value() if callable(value) else value for name, value in arguments.items()}


class Whole(unittest.TestCase):
    def find(self, name):
        """A function or class of the interface, by its module and name."""
        file, _, rest = name.partition(".")
        return vars(importlib.import_module("vectorwidths." + file))[rest]

    def check(self, call, arguments, again=True):
        """A call by position, one by names, and the same calls once more have the same results, and change nothing."""
        by_position, by_name = made(arguments), made(arguments)
        before = seen(by_position)
        one, two = call(*by_position.values()), call(**by_name)
        told = seen(one)
        self.assertEqual(seen(two), told)
        self.assertEqual([seen(by_position), seen(by_name)], [before, before])
        if again and not inspect.isgenerator(one):
            other = call(*by_position.values())
            self.assertEqual(seen(other), told)
            if isinstance(one, (list, dict)):
                self.assertIsNot(one, other)
                one.clear()
                self.assertEqual(seen(call(*by_position.values())), told)
                self.assertEqual(seen(other), told)

    def test_functions_and_classes(self):
        for name, arguments in CALLS.items():
            with self.subTest(name=name):
                self.check(self.find(name), arguments)

    def test_methods(self):
        for name, (make, arguments) in METHODS.items():
            method = name.rpartition(".")[2]
            with self.subTest(name=name):
                if name not in CHANGING:
                    self.check(getattr(make(), method), arguments)
                self.check(lambda *some, **named: getattr(make(), method)(*some, **named), arguments, again=False)

    def test_all_of_the_interface_is_called(self):
        wanted = set()
        for file, names in INTERFACE.items():
            for name, told in names.items():
                if isinstance(told, str):
                    wanted.add(f"{file}.{name}")
        self.assertEqual(wanted, set(CALLS) | set(METHODS) | OTHERS)

    def test_the_names_are_those_of_the_document(self):
        for name, arguments in [*CALLS.items(), *[(name, arguments) for name, (make, arguments) in METHODS.items()]]:
            file, _, rest = name.partition(".")
            names = [one.split("=")[0] for one in INTERFACE[file][rest].split(", ") if one and "*" not in one]
            self.assertEqual(list(arguments), names[:len(arguments)], name)

    def test_those_without_names(self):
        self.assertEqual(Loop([Line("a")], *loop().statements[:1]), read("line a 1\nf a@2 a@0"))
        self.assertEqual(loop().in_order("s", "f", "g")[0].name, "s")
        self.assertEqual(Way(joining="tree", bundles=((0, 0),), guard=False, ahead=1, tail="rest").ahead, 1)
        for call, arguments in ((Way, ("mask",)), (Machine, (1, None, "mask"))):
            with self.assertRaises(TypeError):
                call(*arguments)
        deeds = [(1, "undo", None), (0, "change", ("tail", "mask"))]
        one, two = sessions(), sessions()
        together = self.find("sessions.together")
        self.assertEqual([together(one, deeds), together(deeds=deeds, sessions=two)], [(None, None), (None, None)])
        self.assertEqual(seen(one), seen(two))
        self.assertEqual(deeds, [(1, "undo", None), (0, "change", ("tail", "mask"))])

    def test_static_methods(self):
        for call, arguments in ((Loop.copying, {}), (Loop.summing, {}), (Way.careful, {"loop": loop}), (Loop.copying().summing, {})):
            self.check(call, arguments)

    def test_later_changes_to_an_argument_have_no_effect(self):
        lines, values, cells, handed = [Line("a")], {0: 1}, {("a", 0): 1}, functions()
        kept = Loop(lines, Statement("f", ("a", 0))), Form(values), Machine(1, cells, functions=handed)
        before = seen(kept[0]), kept[1].shifts(), seen(kept[2])
        for thing in (lines, values, cells, handed):
            thing.clear()
        self.assertEqual((seen(kept[0]), kept[1].shifts(), seen(kept[2])), before)
        changed = way()
        held = Session(loop(), changed)
        changed.change("ahead", 3)
        self.assertEqual(held.way, way())

    def test_fields_of_errors_are_the_arguments_themselves(self):
        value = [1, [2]]
        for name in INTERFACE["errors"]:
            if name not in ("WidthError", "NothingToUndo"):
                error = self.find("errors." + name)(value)
                value.append(3)
                self.assertIs(vars(error)["limit" if name == "TooMany" else "value"], value)

    def test_bools(self):
        names = [name for name in CALLS if name.split(".")[1].startswith(("is_", "are_", "accepts", "serves"))]
        self.assertEqual(len(names), 12)
        for name in names:
            self.assertIs(self.find(name)(**made(CALLS[name])).__class__, bool, name)
        for told in (way().goes_with(loop()), Form({}).is_under(Form({})), loop()[0].is_sum, "f" in loop(), loop() == loop()):
            self.assertIs(told.__class__, bool)

    def test_nothing_of_the_interface_is_iterated(self):
        for thing in (loop(), loop()[0], way(), Form({}), Machine(1), notes()):
            with self.assertRaises(TypeError):
                iter(thing)

    def test_objects_of_unlike_classes_are_unequal(self):
        things = [Line("a"), Statement("f"), loop(), way(), Form({}), Machine(1), notes(), session(), console()]
        for one in things:
            for two in things:
                self.assertIs(one == two, one is two)
                self.assertIs(one != two, one is not two)

    def test_copies_are_equal(self):
        for thing in (Line("a"), Statement("f"), loop(), way(), Form({0: None})):
            self.assertEqual(copy.deepcopy(thing), thing)


if __name__ == "__main__":
    unittest.main()
