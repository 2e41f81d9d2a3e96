"""Notes: loops that are kept under names."""

from vectorwidths.alike import are_alike
from vectorwidths.errors import InvalidLoop, InvalidName
from vectorwidths.lines import is_name
from vectorwidths.loops import Loop


class Notes:
    """Loops with names."""

    def __init__(self):
        self.kept_loops = {}

    def names(self):
        """The ascending tuple of the names."""
        return tuple(sorted(self.kept_loops))

    def alike_to(self, loop):
        """The ascending tuple of the names whose loops are alike to a loop."""
        return tuple([name for name in sorted(self.kept_loops) if are_alike(self.kept_loops[name], loop)])

    def __len__(self):
        return len(self.kept_loops)

    def __getitem__(self, at):
        if at not in self:
            raise InvalidName(at)
        return self.kept_loops[at]

    def __setitem__(self, at, worth):
        if not is_name(at):
            raise InvalidName(at)
        if not isinstance(worth, Loop):
            raise InvalidLoop(worth)
        self.kept_loops[at] = worth

    def __iter__(self):
        raise TypeError("the loops of notes are read by name")

    def __contains__(self, x):
        return is_name(x) and x in self.kept_loops
