"""A console: commands as lines of text, and their answers."""

from vectorwidths.errors import InvalidCommand
from vectorwidths.flows import is_right_at
from vectorwidths.sessions import Session
from vectorwidths.sums import least_rules
from vectorwidths.texts import read, write
from vectorwidths.touching import first_touch
from vectorwidths.ways import PARTS, Way
from vectorwidths.widths import first_wrong, safe_widths

MOST_DIGITS = 30
FEED = "; "
DONE = "ok"
NOTHING = "-"
GUARDS = {"yes": True, "no": False}


def count_of(word):
    """The count that a word tells, None if it tells none."""
    if not 1 <= len(word) <= MOST_DIGITS or not all(["0" <= letter <= "9" for letter in word]):
        return None
    return None if word[0] == "0" and len(word) > 1 else int(word)


def bundle_of(word):
    """The tuple of two counts that a word tells, None if it tells none."""
    first, sign, last = word.partition("-")
    bundle = (count_of(first), count_of(last))
    return None if None in bundle else bundle


def value_of(part, words):
    """The value that the words behind the name of a part tell for it, None if they tell none."""
    if part == "bundles":
        bundles = tuple([bundle_of(word) for word in words])
        return None if None in bundles else bundles
    if len(words) != 1 or words[0] == "":
        return None
    if part == "ahead":
        return count_of(words[0])
    return GUARDS.get(words[0]) if part == "guard" else words[0]


def place_told(found):
    """The width and the count at the beginning of a tuple, or that there is none."""
    return NOTHING if found is None else f"{found[0]} {found[1]}"


def show_answer(loop, way):
    """The text of the loop in one line."""
    return FEED.join(write(loop).split("\n"))


def wrong_answer(loop, way):
    """Where the loop is wrong first."""
    return place_told(first_wrong(loop, way))


def safe_answer(loop, way):
    """The safe widths."""
    widths, beyond = safe_widths(loop, way)
    words = [str(width) for width in widths]
    if beyond:
        words.append("+")
    return " ".join(words) if len(words) > 0 else NOTHING


def touch_answer(loop, way):
    """Where the loop touches a cell first."""
    return place_told(first_touch(loop, way))


def rules_answer(loop, way):
    """The least sets of rules of the way."""
    words = [",".join(rules) if len(rules) > 0 else "none" for rules in least_rules(way)]
    return " ".join(words) if len(words) > 0 else NOTHING


ANSWERS = {
    "show": show_answer, "wrong": wrong_answer, "safe": safe_answer, "touch": touch_answer, "rules": rules_answer}


def right_answer(loop, way, words):
    """Whether the loop is right at a width and a count, None if the words do not tell these."""
    numbers = [count_of(word) for word in words]
    if len(numbers) != 2 or None in numbers:
        return None
    return "yes" if is_right_at(loop, way, numbers[0], numbers[1]) else "no"


def answer_to(session, word, words):
    """The answer to any command but `load`, with the words behind its first one; None if it is no command."""
    if word in PARTS:
        value = value_of(word, words)
        if value is None:
            return None
        session.change(word, value)
        return DONE
    if word == "right":
        return right_answer(session.loop, session.way, words)
    if len(words) > 0:
        return None
    if word == "undo":
        session.undo()
        return DONE
    if word not in ANSWERS:
        return None
    answer = ANSWERS[word]
    return answer(session.loop, session.way)


class Console:
    """Executes commands on a loop that is loaded, and on its way."""

    def __init__(self):
        self.kept_session = None

    def run(self, line):
        """Executes a command, and returns its answer."""
        if not isinstance(line, str) or "\n" in line:
            raise InvalidCommand(line)
        word, space, text = line.partition(" ")
        if word == "load" and space != "":
            loop = read("\n".join(text.split(FEED)))
            self.kept_session = Session(loop, Way())
            return DONE
        if self.kept_session is None:
            raise InvalidCommand(line)
        words = text.split(" ") if space != "" else []
        answer = answer_to(self.kept_session, word, words)
        if answer is None:
            raise InvalidCommand(line)
        return answer
