"""Sessions: a loop and a way that are changed step by step, with what can be undone."""

from vectorwidths.errors import InvalidBundles, InvalidCommand, InvalidLoop, NothingToUndo
from vectorwidths.integers import is_between
from vectorwidths.loops import Loop
from vectorwidths.ways import is_word_of
from vectorwidths.wide import check_way
from vectorwidths.widths import first_wrong

WORDS = ("change", "replace", "undo")


def is_deed(value):
    """Whether any value is a deed: a tuple (word, argument)."""
    if not isinstance(value, tuple) or len(value) != 2 or not is_word_of(value[0], WORDS):
        return False
    return value[0] != "change" or isinstance(value[1], tuple) and len(value[1]) == 2


def is_deed_of_one(value, many):
    """Whether any value is a tuple (number, word, argument) of a deed of one of so many sessions."""
    return isinstance(value, tuple) and len(value) == 3 and is_between(value[0], 0, many - 1) and is_deed(value[1:])


def changed(state, part, value):
    """The loop and the way behind a change of a part."""
    loop, way = state
    other = way.twin().change(part, value)
    if not other.goes_with(loop):
        raise InvalidBundles(value)
    return (loop, other)


def replaced(state, loop):
    """Another loop, with the way that is there."""
    way = state[1]
    if not isinstance(loop, Loop) or not way.goes_with(loop):
        raise InvalidLoop(loop)
    return (loop, way)


def perform(states, word, argument):
    """Does a deed to a list of states (loop, way), the last of which is what is there; an error changes nothing."""
    if word == "change":
        part, value = argument
        states.append(changed(states[-1], part, value))
    elif word == "replace":
        states.append(replaced(states[-1], argument))
    else:
        if len(states) == 1:
            raise NothingToUndo()
        states.pop()


class Session:
    """A loop and a way that goes with it."""

    def __init__(self, loop, way):
        check_way(loop, way)
        # The ways in the states are never changed; the states ahead of the last one are those that can come back.
        self.kept_states = [(loop, way.twin())]

    @property
    def loop(self):
        return self.kept_states[-1][0]

    @loop.setter
    def loop(self, value):
        perform(self.kept_states, "replace", value)

    @property
    def way(self):
        return self.kept_states[-1][1].twin()

    def change(self, part, value):
        """Gives a part of the way another value."""
        perform(self.kept_states, "change", (part, value))

    def replace(self, loop):
        """Puts another loop in the place of the loop."""
        perform(self.kept_states, "replace", loop)

    def undo(self):
        """Undoes the last change of the loop or the way."""
        perform(self.kept_states, "undo", None)

    def verdict(self):
        """What goes wrong first, None if nothing does."""
        return first_wrong(self.loop, self.way)

    def attempt(self, deeds):
        """Performs deeds, all or none, and returns the tuple of what they return."""
        if not isinstance(deeds, (list, tuple)) or not all([is_deed(deed) for deed in deeds]):
            raise InvalidCommand(deeds)
        states = list(self.kept_states)
        for word, argument in deeds:
            perform(states, word, argument)
        self.kept_states = states
        return (None,) * len(deeds)


def together(sessions, deeds):
    """Performs deeds of several sessions, all or none, and returns the tuple of what they return."""
    many = len(sessions)
    if not isinstance(deeds, (list, tuple)) or not all([is_deed_of_one(deed, many) for deed in deeds]):
        raise InvalidCommand(deeds)
    rows = [list(session.kept_states) for session in sessions]
    for number, word, argument in deeds:
        perform(rows[number], word, argument)
    for session, states in zip(sessions, rows):
        session.kept_states = states
    return (None,) * len(deeds)
