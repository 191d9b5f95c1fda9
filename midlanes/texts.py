"""Programs as texts, and whole numbers as they are written there."""

from midlanes.errors import NoText
from midlanes.rows import PARTS

FIGURES = "0123456789"
MOST_FIGURES = 60


def shown(program):
    return "\n".join(["\n".join(shown_def(one)) for one in program])


def shown_def(one):
    """The rows of text of a def: its head, and its rows."""
    return [shown_row("def", one[:2])] + [shown_row(row[0], numbers_of(row)) for row in one[2]]


def shown_row(word, numbers):
    return " ".join([word] + [str(n) for n in numbers])


def numbers_of(row):
    """A row's numbers in one tuple: a call's boxes are written behind its def like any other numbers."""
    if row[0] == "call":
        return row[1:3] + row[3]
    return row[1:]


def read(text):
    program = []
    for line in text.split("\n"):
        words = line.split(" ")
        numbers = [read_whole(word, MOST_FIGURES) for word in words[1:]]
        if words[0] == "def":
            program.append(read_head(numbers))
        elif len(program) == 0:
            raise NoText("the first row of text is no head of a def")
        else:
            program[-1][2].append(read_row(words[0], numbers))
    return program


def read_head(numbers):
    if len(numbers) != 2:
        raise NoText("a head of a def has two numbers")
    return (numbers[0], numbers[1], [])


def read_row(word, numbers):
    if word not in PARTS:
        raise NoText("a row of text begins with no word of a row")
    if word == "call":
        return read_call(numbers)
    if len(numbers) != len(PARTS[word]):
        raise NoText("a row has too many or too few numbers")
    return (word,) + tuple(numbers)


def read_call(numbers):
    if len(numbers) < 2:
        raise NoText("a call has too few numbers")
    return ("call", numbers[0], numbers[1], tuple(numbers[2:]))


def read_whole(text, most):
    figures = text[1:] if text.startswith("-") else text
    # int would also read blanks, a + and _, and 0s ahead.
    if not (1 <= len(figures) <= most and all([sign in FIGURES for sign in figures])):
        raise NoText("a number is not written in figures, or in too many")
    if figures[0] == "0" and text != "0":
        raise NoText("a number begins with a 0, or is -0")
    return int(text)
