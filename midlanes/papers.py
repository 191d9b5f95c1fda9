"""Papers: sign frames, tuples (f, at, forms) with a form for each box, and the rows that can be gone with them."""

from midlanes.forms import is_plain, less, of_word, plain, plus, put_in, times
from midlanes.rows import RECKONINGS, goes_to_row, row_of

MOST_SIGN_FRAMES = 4


def silent(program, frames):
    row = row_of(program, frames[-1])
    forms = frames[-1][2]
    if row[0] in RECKONINGS:
        return with_box(frames, row[1], reckoned(row, forms))
    if row[0] == "jump":
        return at_row(frames, row[1])
    if row[0] in ("zero", "below") and is_plain(forms[row[1]]):
        return tested(frames, row)
    if row[0] == "call" and len(frames) < MOST_SIGN_FRAMES:
        return frames + [called(program, row, forms)]
    if row[0] == "back" and len(frames) > 1:
        call = row_of(program, frames[-2])
        return with_box(frames[:-1], call[1], forms[row[1]])
    return None


def is_door(program, stand):
    many = stand[0]
    paper = stand[1]
    if len(paper) != 1 or many != program[paper[0][0]][1]:
        return False
    return paper[0][2] == tuple([of_word(w) for w in range(many)])


def reckoned(row, forms):
    """The form that a row of reckoning puts into its box."""
    if row[0] == "put":
        return plain(row[2])
    if row[0] == "copy":
        return forms[row[2]]
    if row[0] == "plus":
        return plus(forms[row[2]], forms[row[3]])
    if row[0] == "less":
        return less(forms[row[2]], forms[row[3]])
    return times(forms[row[2]], row[3])


def with_box(frames, p, form):
    """The sign frames with the form in box p of the last one, which is at its next row."""
    last = frames[-1]
    return frames[:-1] + [(last[0], last[1] + 1, last[2][:p] + (form,) + last[2][p + 1:])]


def at_row(frames, at):
    """The sign frames with the last one at this row."""
    last = frames[-1]
    return frames[:-1] + [(last[0], at, last[2])]


def tested(frames, row):
    """The sign frames behind a zero or below whose box has a plain form."""
    number = frames[-1][2][row[1]][0]
    return at_row(frames, row[2] if goes_to_row(row, number) else frames[-1][1] + 1)


def called(program, row, forms):
    """The sign frame that a call puts behind the others."""
    handed = [forms[q] for q in row[3]]
    lacking = program[row[2]][1] - len(handed)
    return (row[2], 0, tuple(handed + [plain(0)] * lacking))


def filled(frames, forms):
    """The sign frames with the forms put in for their words."""
    return [(f, at, tuple([put_in(form, forms) for form in boxes])) for f, at, boxes in frames]
