"""Loops and ways for the tests that go through many: some small ones, all of a sort, and drawn ones, always the same."""

import random

from vectorwidths.lines import Line
from vectorwidths.loops import Loop
from vectorwidths.statements import Statement
from vectorwidths.ways import Way

ALL_BUNDLES = {
    1: [(), ((0, 0),)],
    2: [(), ((0, 0),), ((0, 0), (1, 1)), ((0, 1),), ((1, 1),)],
    3: [(), ((0, 0),), ((0, 1),), ((0, 2),), ((1, 1),), ((1, 2),), ((2, 2),), ((0, 0), (2, 2)), ((0, 1), (2, 2)),
        ((0, 0), (1, 1), (2, 2)), ((0, 0), (1, 2)), ((0, 0), (1, 1)), ((1, 1), (2, 2))],
}


def small_loops():
    """All loops of one statement on one line with small offsets, and strides 1 and 2."""
    for stride in (1, 2):
        for target in (None, 0, 1):
            for source in (-2, -1, 0, 1, 2):
                goal = None if target is None else ("a", target)
                yield Loop([Line("a", stride)], Statement("f", goal, ("a", source)))


def drawn_ref(draw, lines, most):
    """A ref on one of the lines."""
    return (draw.choice(lines).name, draw.randint(-most, most))


def drawn_loops(many, seed, most_statements=3, most_offset=3):
    """So many loops of one to three lines and some statements."""
    draw = random.Random(seed)
    for _ in range(many):
        lines = [Line(name, draw.choice((1, 1, 1, 2, 3))) for name in "abc"[:draw.randint(1, 2)]]
        statements = []
        for number in range(draw.randint(1, most_statements)):
            target = drawn_ref(draw, lines, most_offset) if draw.random() < 0.8 else None
            sources = [drawn_ref(draw, lines, most_offset) for _ in range(draw.randint(0, 3))]
            statements.append(Statement("fghij"[number], target, *sources))
        yield Loop(lines, *statements)


def drawn_ways(loop, many, seed):
    """So many ways that go with the loop."""
    draw = random.Random(seed)
    for _ in range(many):
        yield Way(
            tail=draw.choice(("mask", "rest", "whole")), ahead=draw.choice((0, 0, 1, 2, 3)),
            guard=draw.choice((True, False)), bundles=draw.choice(ALL_BUNDLES[len(loop)]))


def all_ways(loop):
    """All ways that go with a loop of up to three statements, but for the joining."""
    for tail in ("mask", "rest", "whole"):
        for ahead in range(4):
            for guard in (True, False):
                for bundles in ALL_BUNDLES[len(loop)]:
                    yield Way(tail=tail, ahead=ahead, guard=guard, bundles=bundles)
