"""Changes: edits of a loop and a way, and the least ones that make it safe."""

from vectorwidths.alike import are_alike
from vectorwidths.choices import all_choices, is_part
from vectorwidths.errors import InvalidEdit
from vectorwidths.ways import are_bundles_of, is_allowed, is_word_of
from vectorwidths.widths import is_safe

WORDS = ("tail", "ahead", "guard", "bundles", "order")
LONGEST_MENU = 6


def is_order_of(value, loop):
    """Whether any value is a tuple of the names of all statements of the loop, each once."""
    if not isinstance(value, tuple) or not all([isinstance(name, str) for name in value]):
        return False
    return sorted(value) == sorted([statement.name for statement in loop.statements])


def is_edit(value, loop):
    """Whether any value is an edit that can be made, of the loop or of a way that goes with it."""
    if not isinstance(value, tuple) or len(value) != 2 or not is_word_of(value[0], WORDS):
        return False
    word, worth = value
    if word == "order":
        return is_order_of(worth, loop)
    return are_bundles_of(worth, loop) if word == "bundles" else is_allowed(word, worth)


def made(loop, way, edits):
    """The tuple (loop, way) behind edits that can be made."""
    kept = way.twin()
    for word, worth in edits:
        if word == "order":
            loop = loop.in_order(*worth)
        else:
            kept.change(word, worth)
    return loop, kept


def edited(loop, way, edits):
    """The tuple (loop, way) behind the edits, one after the other."""
    if not isinstance(edits, (list, tuple)):
        raise InvalidEdit(edits)
    # No edit changes how many statements there are, or their names, so that it does not matter which came before.
    for edit in edits:
        if not is_edit(edit, loop):
            raise InvalidEdit(edit)
    return made(loop, way, edits)


def check_menu(loop, menu):
    """Refuses what is no list or tuple of a few unlike edits."""
    if not isinstance(menu, (list, tuple)) or len(menu) > LONGEST_MENU:
        raise InvalidEdit(menu)
    for at, edit in enumerate(menu):
        if not is_edit(edit, loop) or edit in menu[:at]:
            raise InvalidEdit(edit)


def have_unlike_words(edits):
    """Whether no two edits have the same word."""
    return len({word for word, worth in edits}) == len(edits)


def least_changes(loop, way, menu):
    """The list of the least tuples of edits of the menu behind which the loop is alike and safe."""
    check_menu(loop, menu)
    found = []
    for edits in all_choices(menu):
        if have_unlike_words(edits) and not any([is_part(least, edits) for least in found]):
            other, kept = made(loop, way, edits)
            if are_alike(loop, other) and is_safe(other, kept):
                found.append(edits)
    return found
