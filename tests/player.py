"""A small player of loops, written from the points [7], [9] and [10] of the document alone.

It keeps no table of anything: it does the steps on a memory in which each cell holds the (statement, iteration) that
stored to it last. Of the program it reads only what loops and ways are made of."""


def cell_of(loop, ref, at):
    """The cell of a ref at an iteration."""
    stride = [line.stride for line in loop.lines if line.name == ref[0]][0]
    return (ref[0], stride * at + ref[1])


class Memory:
    """What is in the cells, and everything that was done to them."""

    def __init__(self, loop):
        self.loop = loop
        self.held = {}
        self.got = {}
        self.events = []
        self.cells = set()

    def load(self, j, i, touching=False):
        """All loads of statement j at iteration i."""
        for k, ref in enumerate(self.loop.statements[j].sources):
            cell = cell_of(self.loop, ref, i)
            self.cells.add(cell)
            self.events.append(("touch" if touching else "load", j, i, k))
            if not touching:
                self.got[j, i, k] = self.held.get(cell)

    def end(self, j, i):
        """The store or the add of statement j at iteration i."""
        target = self.loop.statements[j].target
        if target is None:
            self.events.append(("add", j, i, 0))
            return
        cell = cell_of(self.loop, target, i)
        self.cells.add(cell)
        self.held[cell] = (j, i)
        self.events.append(("store", j, i, 0))

    def step(self, j, i):
        """Statement j at iteration i, as a whole."""
        self.load(j, i)
        self.end(j, i)


def play_plain(loop, n):
    """The memory behind the plain loop."""
    memory = Memory(loop)
    for i in range(n):
        for j in range(len(loop.statements)):
            memory.step(j, i)
    return memory


def play_wide(loop, way, w, n):
    """The memory behind the wide loop."""
    memory = Memory(loop)
    many = n // w if way.tail == "rest" else -(-n // w)
    alone = [j for first, last in way.bundles for j in range(first, last + 1)]
    wide = [j for j in range(len(loop.statements)) if j not in alone]

    def lanes(b):
        return [b * w + lane for lane in range(w) if way.tail != "mask" or b * w + lane < n]

    def load_for(b):
        if b < many or not way.guard:
            for j in wide:
                for i in lanes(b):
                    memory.load(j, i, touching=b >= many)

    def work(b):
        for j in range(len(loop.statements)):
            if j in wide:
                for i in lanes(b) if way.ahead == 0 else []:
                    memory.load(j, i)
                for i in lanes(b):
                    memory.end(j, i)
            for first, last in way.bundles:
                if j == first:
                    for i in lanes(b):
                        for q in range(first, last + 1):
                            memory.step(q, i)

    for b in range(many):
        if way.ahead > 0 and b == 0:
            for c in range(way.ahead):
                load_for(c)
        if way.ahead > 0:
            load_for(b + way.ahead)
        work(b)
    if way.tail == "rest":
        for i in range(many * w, n):
            for j in range(len(loop.statements)):
                memory.step(j, i)
    return memory


def play_differences(loop, way, w, n):
    """The differences that the two memories show."""
    plain, wide = play_plain(loop, n), play_wide(loop, way, w, n)
    loads = [("load", *load) for load in sorted(plain.got) if plain.got[load] != wide.got[load]]
    cells = [
        ("cell", *cell) for cell in sorted({*plain.held, *wide.held})
        if cell not in plain.held or cell not in wide.held or plain.held[cell] != wide.held[cell]]
    return loads + cells
