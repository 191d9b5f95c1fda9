"""Rows of programs: which rows come behind a row, and whether a program is formed."""

from midlanes.wholes import is_whole

MOST_DEFS = 6
MOST_TAKES = 4
MOST_BOXES = 8
MOST_ROWS = 30
MOST_FACTOR = 99

# What each word has behind it, part by part.
PARTS = {
    "put": ("box", "number"),
    "copy": ("box", "box"),
    "plus": ("box", "box", "box"),
    "less": ("box", "box", "box"),
    "times": ("box", "box", "factor"),
    "take": ("box",),
    "tell": ("box",),
    "jump": ("row",),
    "zero": ("box", "row"),
    "below": ("box", "row"),
    "call": ("box", "def", "boxes"),
    "back": ("box",),
}

# The words whose rows put a number reckoned from the frame's own boxes into one of them.
RECKONINGS = ("put", "copy", "plus", "less", "times")


def nexts(rows, at):
    row = rows[at]
    if row[0] == "back":
        return []
    if row[0] == "jump":
        return [row[1]]
    if row[0] in ("zero", "below"):
        return sorted(set([row[2], at + 1]))
    return [at + 1]


def row_of(program, frame):
    """The row at which a frame, or a sign frame, stands."""
    return program[frame[0]][2][frame[1]]


def goes_to_row(row, number):
    """Whether a zero or below goes on at its row t where its box has this number."""
    return number == 0 if row[0] == "zero" else number < 0


def formed(program):
    if not (isinstance(program, list) and 1 <= len(program) <= MOST_DEFS):
        return False
    # All heads go first: a call's row is held against the head of another def.
    if not all([head_fits(one) for one in program]):
        return False
    if program[0][0] != 0:
        return False
    return all([rows_fit(program, f) for f in range(len(program))])


def head_fits(one):
    """Whether a def has its three parts, and its takes, its boxes and the length of its rows are in bounds."""
    if not (isinstance(one, tuple) and len(one) == 3):
        return False
    takes = one[0]
    boxes = one[1]
    rows = one[2]
    if not (is_whole(takes) and is_whole(boxes) and isinstance(rows, list)):
        return False
    return 1 <= boxes <= MOST_BOXES and 0 <= takes <= min(MOST_TAKES, boxes) and 1 <= len(rows) <= MOST_ROWS


def rows_fit(program, f):
    rows = program[f][2]
    counts = {"box": program[f][1], "row": len(rows), "def": len(program)}
    if not all([row_fits(program, row, counts) for row in rows]):
        return False
    return rows[-1][0] in ("jump", "back")


def row_fits(program, row, counts):
    if not (isinstance(row, tuple) and len(row) > 0 and isinstance(row[0], str) and row[0] in PARTS):
        return False
    kinds = PARTS[row[0]]
    if len(row) != len(kinds) + 1:
        return False
    if not all([part_fits(part, kind, counts) for part, kind in zip(row[1:], kinds)]):
        return False
    return row[0] != "call" or len(row[3]) == program[row[2]][0]


def part_fits(part, kind, counts):
    """Whether a row's part is of its kind; counts tells how many boxes, rows and defs there are."""
    if kind == "boxes":
        return isinstance(part, tuple) and all([part_fits(q, "box", counts) for q in part])
    if not is_whole(part):
        return False
    if kind == "number":
        return True
    if kind == "factor":
        return -MOST_FACTOR <= part <= MOST_FACTOR
    return 0 <= part < counts[kind]
