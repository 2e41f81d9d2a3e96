"""Players with numbers, written from the points [5], [7] and [17] of the document alone: a machine, and plain loops."""

import random

from tests.player import cell_of


class Tape:
    """Cells and sums of numbers, on which codes are done order by order, lane by lane."""

    def __init__(self, width, tail, functions, cells=()):
        self.width, self.tail, self.functions = width, tail, functions
        self.held = dict(cells)
        self.totals = {}

    def shown(self):
        """The cells that are not 0, and the totals."""
        return {cell: number for cell, number in self.held.items() if number != 0}, self.totals

    def do(self, order, registers, loop, i):
        """One order of the four first kinds, for the lane with these registers and this iteration."""
        if order[0] == "load":
            _, r, line, offset = order
            registers[r] = self.held.get(cell_of(loop, (line, offset), i), 0)
        if order[0] == "call":
            _, r, name, *read = order
            registers[r] = self.functions[name](i, tuple(registers[q] for q in read))
        if order[0] == "store":
            _, line, offset, r = order
            self.held[cell_of(loop, (line, offset), i)] = registers[r]
        if order[0] == "add":
            _, name, r = order
            self.totals[name] = self.totals.get(name, 0) + registers[r]

    def block(self, code, loop, lanes):
        """All orders for the lanes that are on, as tuples (lane, iteration)."""
        registers = {lane: {r: 0 for r in range(10)} for lane, i in lanes}
        for order in code:
            if order[0] == "lane":
                for lane, i in lanes:
                    for inner in order[1]:
                        self.do(inner, registers[lane], loop, i)
            else:
                for lane, i in lanes:
                    self.do(order, registers[lane], loop, i)

    def run(self, code, loop, n):
        """The whole code for all iterations."""
        begun = 0
        while begun < n:
            many = self.width
            if begun + self.width > n and self.tail == "rest":
                many = 1
            self.block(code, loop, [(lane, begun + lane) for lane in range(many) if begun + lane < n])
            begun += many
        return self


def play_numbers(loop, functions, n, cells=()):
    """The cells that are not 0, and the totals of the sums, behind the plain loop."""
    held, totals = dict(cells), {}
    for i in range(n):
        for statement in loop.statements:
            values = tuple(held.get(cell_of(loop, ref, i), 0) for ref in statement.sources)
            result = functions[statement.name](i, values)
            if statement.target is None:
                totals[statement.name] = totals.get(statement.name, 0) + result
            else:
                held[cell_of(loop, statement.target, i)] = result
    return {cell: number for cell, number in held.items() if number != 0}, totals


def mixing(factor):
    """A function the result of which tells the iteration and all values apart, nearly always."""
    def mixed(i, values):
        total = factor * (i + 1)
        for value in values:
            total = (total * 31 + value) % 1000003
        return total - 500001
    return mixed


FUNCTIONS = {name: mixing(factor) for factor, name in enumerate("fghij", 17)}


def drawn_cells(draw):
    """Some cells with numbers."""
    return {(draw.choice("ab"), draw.randint(-9, 30)): draw.randint(-5, 5) for _ in range(draw.randint(0, 30))}


def drawn_single(draw, names):
    """An order of the four first kinds, with registers that are often the same."""
    def r():
        return draw.choice((0, 1, 2, 9))

    line, offset = draw.choice(names), draw.randint(-2, 2)
    return draw.choice((
        ("load", r(), line, offset), ("load", r(), line, offset),
        ("call", r(), draw.choice("fgh"), *[r() for _ in range(draw.randint(0, 3))]),
        ("call", r(), draw.choice("fgh"), *[r() for _ in range(draw.randint(0, 3))]),
        ("store", line, offset, r()), ("store", line, offset, r()), ("add", draw.choice("stu"), r())))


def drawn_code(seed, names):
    """A code with lines of these names."""
    draw = random.Random(seed)
    code = []
    for _ in range(draw.randint(0, 8)):
        if draw.random() < 0.3:
            code.append(("lane", tuple(drawn_single(draw, names) for _ in range(draw.randint(0, 4)))))
        else:
            code.append(drawn_single(draw, names))
    return code if draw.random() < 0.5 else tuple(code)
