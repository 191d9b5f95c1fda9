"""Lanes as texts, and rides asked and answered in texts."""

from midlanes.errors import Faulty, NoText, NotFormed
from midlanes.judge import DEED_PARTS, fault
from midlanes.rides import ride
from midlanes.rows import formed
from midlanes.texts import read, read_whole, shown_row

MOST_FIGURES = 300


def shown_lane(lane):
    return "\n".join(["\n".join(shown_stand(stand)) for stand in lane])


def shown_stand(stand):
    """The rows of text of a stand: its words, its sign frames, its deed, its edges."""
    deed = stand[2]
    lines = [shown_row("stand", stand[:1])]
    lines.extend([shown_forms("frame", frame[0], frame[1], frame[2]) for frame in stand[1]])
    lines.append(shown_row(deed[0], [part for part in deed[1:] if not isinstance(part, tuple)]))
    lines.extend([shown_forms("edge", part[0], part[2], part[1]) for part in deed[1:] if isinstance(part, tuple)])
    return lines


def shown_forms(word, one, other, forms):
    return " ".join([shown_row(word, (one, other))] + [shown_form(form) for form in forms])


def shown_form(form):
    return ";".join([str(form[0])] + [f"{a}:{w}" for a, w in form[1]])


def read_lane(text):
    groups = []
    for line in text.split("\n"):
        words = line.split(" ")
        if words[0] == "stand":
            groups.append([])
        elif len(groups) == 0:
            raise NoText("the first row of text is no stand")
        groups[-1].append(words)
    return [read_stand(group) for group in groups]


def read_stand(group):
    """A stand of its rows of text, each a list of words."""
    many = read_numbers(group[0], 1)[0]
    frames = 1
    while frames < len(group) and group[frames][0] == "frame":
        frames = frames + 1
    if frames == len(group):
        raise NoText("a stand has no deed")
    paper = [read_frame(words) for words in group[1:frames]]
    return (many, paper, read_deed(group[frames], group[frames + 1:]))


def read_frame(words):
    numbers = read_numbers(words[:3], 2)
    return (numbers[0], numbers[1], read_forms(words[3:]))


def read_deed(words, lines):
    """A deed of its own row of text, and of those of its edges."""
    if words[0] not in DEED_PARTS:
        raise NoText("a row of text begins with no word of a lane, or with one that is out of its place")
    parts = DEED_PARTS[words[0]]
    numbers = read_numbers(words, parts.count("number"))
    if len(lines) != parts.count("edge"):
        raise NoText("a deed has too many or too few edges")
    return (words[0],) + tuple(numbers) + tuple([read_edge(line) for line in lines])


def read_edge(words):
    if words[0] != "edge":
        raise NoText("behind a deed stands what is no edge")
    numbers = read_numbers(words[:3], 2)
    return (numbers[0], read_forms(words[3:]), numbers[1])


def read_forms(words):
    return tuple([read_form(word) for word in words])


def read_form(word):
    parts = word.split(";")
    return (read_number(parts[0]), tuple([read_pair(part) for part in parts[1:]]))


def read_pair(part):
    numbers = part.split(":")
    if len(numbers) != 2:
        raise NoText("a pair of a form has not just two numbers")
    return (read_number(numbers[0]), read_number(numbers[1]))


def read_numbers(words, many):
    """The numbers behind the first word, just so many."""
    if len(words) != many + 1:
        raise NoText("a row of text has too many or too few numbers")
    return [read_number(word) for word in words[1:]]


def read_number(text):
    return read_whole(text, MOST_FIGURES)


def answer(text, lane_text, inputs, most, when):
    program = read(text)
    if not formed(program):
        raise NotFormed("the program is not formed")
    lane = read_lane(lane_text)
    found = fault(program, lane)
    if found is not None:
        raise Faulty(found[0], found[1])
    told = ride(program, lane, inputs, most, when)
    words = told[1] + ["/"] + list(told[0])
    return " ".join([str(word) for word in words])
