"""The names, parameters and places of everything that the document's interface lists."""

import importlib
import inspect
import unittest

INTERFACE = {
    "errors": {
        "WidthError": None,
        **{name: "value" for name in (
            "InvalidNumber InvalidName InvalidRef InvalidLine InvalidStatement InvalidLoop InvalidText InvalidPart "
            "InvalidBundles InvalidTerm InvalidRules InvalidEdit InvalidCommand InvalidCode UnknownCell").split()},
        "TooMany": "limit", "NothingToUndo": ""},
    "lines": {
        "is_name": "value", "is_ref": "value", "Line": "name, stride=1", "Line.cell": "offset, at",
        "Line.distance": "first, second", "Line.__mul__": None, "Line.__eq__": None, "Line.name": property,
        "Line.stride": property},
    "statements": {
        "Statement": "name, target=None, *sources", "Statement.name": property, "Statement.target": property,
        "Statement.sources": property, "Statement.is_sum": property, "Statement.moved": "by",
        "Statement.__len__": None, "Statement.__getitem__": None, "Statement.__contains__": None,
        "Statement.__eq__": None},
    "loops": {
        "Loop": "lines, *statements", "Loop.lines": property, "Loop.statements": property, "Loop.__len__": None,
        "Loop.__getitem__": None, "Loop.__contains__": None, "Loop.line": "name", "Loop.cell": "ref, at",
        "Loop.in_order": "*names", "Loop.__add__": None, "Loop.__eq__": None, "Loop.copying": staticmethod,
        "Loop.summing": staticmethod},
    "texts": {"write": "loop", "read": "text"},
    "plain": {name: "loop, count" for name in ("plain_events", "plain_origins", "plain_writers", "plain_cells")},
    "ways": {
        "PARTS": None, "Way": "*, tail='mask', ahead=0, guard=True, bundles=(), joining='row'",
        **{"Way." + name: property for name in ("tail", "ahead", "guard", "bundles", "joining")},
        "Way.__getitem__": None, "Way.__setitem__": None, "Way.__contains__": None, "Way.__eq__": None,
        "Way.change": "part, value", "Way.twin": "", "Way.goes_with": "loop", "Way.careful": staticmethod},
    "wide": {
        "blocks": "way, width, count", "lanes": "way, width, count, block",
        **{name: "loop, way, width, count" for name in ("wide_events", "wide_origins", "wide_writers", "wide_cells")}},
    "flows": {
        "differences": "loop, way, width, count", "is_right_at": "loop, way, width, count",
        "origin_pair": "loop, way, width, count, load"},
    "distances": {"meets": "loop", "reach": "loop", "crossings": "loop, width"},
    "widths": {
        "last_count": "loop, way, width", "first_count": "loop, way, width",
        **{name: "loop, way" for name in ("first_wrong", "safe_widths", "is_safe", "greatest_safe")}},
    "touching": {"touches": "loop, way, width, count", "first_touch": "loop, way", "is_tight": "loop, way"},
    "sums": {
        "RULES": None, "is_term": "value", "plain_sum": "count", "wide_sum": "way, width, count", "items_of": "term",
        "are_equal": "one, other, rules", "least_rules_at": "way, width, count", "least_rules_for": "way, width",
        "least_rules": "way"},
    "ahead": {"safe_aheads": "loop, way", "early_loads": "loop, way"},
    "bundles": {"all_bundles": "many", "is_within": "one, other", "least_bundles": "loop, way"},
    "fences": {
        "free_origins": "loop, number, place, width, count", "bad_places": "loop", "serves": "loop, fences",
        "least_fences": "loop"},
    "overlaps": {
        "overlapped": "loop, first, second, shift", "Form": "values", "Form.__getitem__": None, "Form.__contains__": None,
        "Form.__len__": None, "Form.shifts": "", "Form.__and__": None, "Form.is_under": "other", "Form.__eq__": None,
        "Form.test": "width", "width_form": "loop, way, first, second"},
    "alike": {
        "are_alike": "one, other", "first_unlike": "one, other", "alike_orders": "loop", "safe_order": "loop, way"},
    "fusing": {"fused": "one, other", "parted": "loop, at", "first_unfused": "one, other", "can_part": "loop"},
    "turning": {"turned_origins": "loop, count", "first_unturned": "loop", "unrolled": "loop, times"},
    "codes": {"is_code": "value", "compiled": "loop, bundles=()"},
    "machines": {
        "Machine": "width, cells=None, *, tail='mask', functions=None", "Machine.width": property,
        "Machine.functions": property, "Machine.__getitem__": None, "Machine.__setitem__": None, "Machine.cells": "",
        "Machine.sums": property, "Machine.__call__": "code, loop, count",
        "played": "loop, functions, count, cells=None"},
    "papers": {"paper": "loop, way", "accepts": "loop, way, value"},
    "changes": {"edited": "loop, way, edits", "least_changes": "loop, way, menu"},
    "notes": {
        "Notes": "", "Notes.__setitem__": None, "Notes.__getitem__": None, "Notes.__contains__": None, "Notes.__len__": None,
        "Notes.names": "", "Notes.alike_to": "loop"},
    "sessions": {
        "Session": "loop, way", "Session.loop": property, "Session.way": property, "Session.change": "part, value",
        "Session.replace": "loop", "Session.verdict": "", "Session.undo": "", "Session.attempt": "deeds",
        "together": "sessions, deeds"},
    "console": {"Console": "", "Console.run": "line"},
}


def parameters(thing, method):
    """The parameters of a function, class or method as they are written, without the object itself."""
    signature = inspect.signature(thing)
    kept = list(signature.parameters.values())
    return str(signature.replace(parameters=kept[1:] if method else kept))[1:-1]


class Interface(unittest.TestCase):
    def test_names_and_parameters(self):
        for file, names in INTERFACE.items():
            module = importlib.import_module("vectorwidths." + file)
            for name, wanted in names.items():
                with self.subTest(file=file, name=name):
                    self.check(module, name, wanted)

    def check(self, module, name, wanted):
        """One name of the interface stands in its own file, and in its own class."""
        top, _, method = name.partition(".")
        thing = vars(module)[top]
        if not isinstance(thing, tuple):
            self.assertEqual(thing.__module__, module.__name__)
        if method:
            thing = vars(thing)[method]
        if wanted in (property, staticmethod):
            self.assertIsInstance(thing, wanted)
        elif isinstance(wanted, str):
            self.assertEqual(parameters(thing, bool(method)), wanted)


if __name__ == "__main__":
    unittest.main()
