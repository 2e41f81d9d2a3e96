"""Statements: what a loop loads and stores in each of its iterations."""

from vectorwidths.errors import InvalidName, InvalidNumber, InvalidRef
from vectorwidths.integers import is_between, is_integer
from vectorwidths.lines import is_name, is_offset, is_ref

MOST_SOURCES = 3


def refs_of(statement):
    """All refs of a statement: the target, unless it is a sum, and then the sources."""
    if statement.is_sum:
        return list(statement.sources)
    return [statement.target, *statement.sources]


class Statement:
    """Loads from its sources, and stores at its target or, without one, adds to its own sum."""

    def __init__(self, name, target=None, *sources):
        if not is_name(name):
            raise InvalidName(name)
        if target is not None and not is_ref(target):
            raise InvalidRef(target)
        if len(sources) > MOST_SOURCES:
            raise InvalidRef(sources)
        for source in sources:
            if not is_ref(source):
                raise InvalidRef(source)
        self.kept_name = name
        self.kept_target = target
        self.kept_sources = sources

    @property
    def name(self):
        return self.kept_name

    @property
    def target(self):
        return self.kept_target

    @property
    def sources(self):
        return self.kept_sources

    @property
    def is_sum(self):
        return self.kept_target is None

    def moved(self, by):
        """The statement with by added to all its offsets."""
        if not is_integer(by) or not all([is_offset(offset + by) for name, offset in refs_of(self)]):
            raise InvalidNumber(by)
        refs = [(name, offset + by) for name, offset in refs_of(self)]
        if self.is_sum:
            return Statement(self.kept_name, None, *refs)
        return Statement(self.kept_name, *refs)

    def __len__(self):
        return len(self.kept_sources)

    def __getitem__(self, at):
        if not is_between(at, 0, len(self.kept_sources) - 1):
            raise InvalidNumber(at)
        return self.kept_sources[at]

    def __iter__(self):
        raise TypeError("the sources of a statement are read by number")

    def __contains__(self, x):
        return is_ref(x) and x in refs_of(self)

    def __eq__(self, other):
        return (isinstance(other, Statement) and self.kept_name == other.kept_name
                and self.kept_target == other.kept_target and self.kept_sources == other.kept_sources)
