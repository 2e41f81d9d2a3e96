"""Loops as lines of text, written and read back."""

from vectorwidths.errors import InvalidStatement, InvalidText, WidthError
from vectorwidths.lines import GREATEST_OFFSET, GREATEST_STRIDE, Line, is_name
from vectorwidths.loops import Loop
from vectorwidths.statements import Statement

NO_TARGET = "+"


def write_ref(ref):
    """The word for a ref."""
    return f"{ref[0]}@{ref[1]}"


def write_statement(statement):
    """The row of text for a statement."""
    target = NO_TARGET if statement.is_sum else write_ref(statement.target)
    sources = [write_ref(source) for source in statement.sources]
    return " ".join([statement.name, target, *sources])


def write(loop):
    """The text of a loop."""
    rows = [f"line {line.name} {line.stride}" for line in loop.lines]
    return "\n".join([*rows, *[write_statement(statement) for statement in loop.statements]])


def read_number(word, least, most):
    """The integer from least to most that is written as this word, None if none is."""
    for number in range(least, most + 1):
        if str(number) == word:
            return number
    return None


def is_line_row(words):
    """Whether the words are those of a line: the second word of a statement is never a name."""
    return len(words) == 3 and words[0] == "line" and is_name(words[1])


def read_line(words):
    """The line of a row; wrong numbers come as None, which Line refuses."""
    return Line(words[1], read_number(words[2], 1, GREATEST_STRIDE))


def read_ref(word):
    """The ref of a word; what is none comes as a tuple that Statement refuses."""
    name, sign, digits = word.partition("@")
    return (name, read_number(digits, -GREATEST_OFFSET, GREATEST_OFFSET))


def read_statement(words):
    """The statement of a row."""
    if len(words) < 2:
        raise InvalidStatement(words)
    target = None if words[1] == NO_TARGET else read_ref(words[1])
    sources = [read_ref(word) for word in words[2:]]
    return Statement(words[0], target, *sources)


def read(text):
    """The loop with this text."""
    if not isinstance(text, str):
        raise InvalidText(text)
    rows = [row.split(" ") for row in text.split("\n")]
    many = 0
    while many < len(rows) and is_line_row(rows[many]):
        many += 1
    try:
        lines = [read_line(words) for words in rows[:many]]
        statements = [read_statement(words) for words in rows[many:]]
        return Loop(lines, *statements)
    except WidthError:
        raise InvalidText(text) from None
