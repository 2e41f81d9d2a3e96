"""A machine of any width, which does codes with numbers."""

from vectorwidths.codes import GREATEST_COUNT, compiled, is_code, single_orders, singles_of
from vectorwidths.errors import InvalidCode, InvalidNumber, InvalidPart, UnknownCell
from vectorwidths.integers import is_integer
from vectorwidths.lines import is_cell
from vectorwidths.plain import check_count
from vectorwidths.ways import Way, is_word_of
from vectorwidths.wide import blocks, check_width, lanes

TAILS = ("mask", "rest")


def is_order_for(order, loop, functions):
    """Whether a loop has the line of an order, or there is a function for its call."""
    if order[0] == "call":
        return order[2] in functions
    if order[0] == "add":
        return True
    line = order[2] if order[0] == "load" else order[1]
    return line in [one.name for one in loop.lines]


def is_code_for(code, loop, functions):
    """Whether any value is a code with lines of the loop, and with calls that have functions."""
    return is_code(code) and all([is_order_for(order, loop, functions) for order in single_orders(code)])


def rows_of(tail, width, count):
    """The rows of iterations that are done at once: the lanes of the blocks that are on, and a rest one by one."""
    way = Way(tail=tail)
    rows = [lanes(way, width, count, block) for block in range(blocks(way, width, count))]
    # Under `mask` nothing is left behind all blocks.
    return [*rows, *[(at,) for at in range(len(rows) * width, count)]]


class Work:
    """A code on its way: what it reads, and the cells and sums as they have become."""

    def __init__(self, loop, functions, held_cells, held_sums):
        self.kept_loop = loop
        self.kept_functions = functions
        self.kept_cells = {cell: held_cells[cell] for cell in held_cells}
        self.kept_sums = dict(held_sums)

    def step(self, order, at, registers):
        """One lane, with its registers, does at its iteration one order that is no order `lane`."""
        word = order[0]
        if word == "load":
            cell = self.kept_loop.cell(order[2:], at)
            registers[order[1]] = self.kept_cells.get(cell, 0)
        elif word == "call":
            function = self.kept_functions[order[2]]
            registers[order[1]] = function(at, tuple([registers[number] for number in order[3:]]))
        elif word == "store":
            cell = self.kept_loop.cell(order[1:3], at)
            self.kept_cells[cell] = registers[order[3]]
        else:
            self.kept_sums[order[1]] = self.kept_sums.get(order[1], 0) + registers[order[2]]

    def block(self, code, row):
        """All orders, for a row of iterations that are done at once."""
        registers = {at: [0] * (GREATEST_COUNT + 1) for at in row}
        for order in code:
            for at in row:
                for single in singles_of(order):
                    self.step(single, at, registers[at])


class Machine:
    """Does codes at a width; its cells hold integers, and are 0 at first unless it is told otherwise."""

    def __init__(self, width, cells=None, *, tail="mask", functions=None):
        check_width(width)
        if not is_word_of(tail, TAILS):
            raise InvalidPart("tail")
        if functions is not None and not isinstance(functions, dict):
            raise InvalidCode(functions)
        self.kept_width = width
        self.kept_tail = tail
        self.kept_functions = {} if functions is None else dict(functions)
        self.kept_cells = {} if cells is None else {cell: cells[cell] for cell in cells}
        self.kept_sums = {}

    @property
    def width(self):
        return self.kept_width

    @property
    def functions(self):
        return dict(self.kept_functions)

    @functions.setter
    def functions(self, value):
        if not isinstance(value, dict):
            raise InvalidCode(value)
        self.kept_functions = dict(value)

    @property
    def sums(self):
        return {name: self.kept_sums[name] for name in sorted(self.kept_sums)}

    def cells(self):
        """The dict of all cells that are not 0, in ascending order."""
        return {cell: self.kept_cells[cell] for cell in sorted(self.kept_cells) if self.kept_cells[cell] != 0}

    def __call__(self, code, loop, count):
        if not is_code_for(code, loop, self.kept_functions):
            raise InvalidCode(code)
        check_count(count)
        # An error of a function must leave the machine as it was.
        work = Work(loop, self.kept_functions, self.kept_cells, self.kept_sums)
        for row in rows_of(self.kept_tail, self.kept_width, count):
            work.block(code, row)
        self.kept_cells = work.kept_cells
        self.kept_sums = work.kept_sums
        return self

    def __getitem__(self, at):
        if not is_cell(at):
            raise UnknownCell(at)
        return self.kept_cells.get(at, 0)

    def __setitem__(self, at, worth):
        if not is_cell(at):
            raise UnknownCell(at)
        if not is_integer(worth):
            raise InvalidNumber(worth)
        self.kept_cells[at] = worth

    def __iter__(self):
        raise TypeError("the cells of a machine are read one by one")


def played(loop, functions, count, cells=None):
    """A machine of width 1 that has done the code of the loop."""
    if not isinstance(functions, dict):
        raise InvalidCode(functions)
    machine = Machine(1, cells, functions=functions)
    return machine(compiled(loop), loop, count)
