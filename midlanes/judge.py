"""The judge: looks at a lane's stands, and tells the first one that is wrong."""

from midlanes.forms import is_form, of_word, plain, put_in
from midlanes.papers import MOST_SIGN_FRAMES, at_row, filled, silent, with_box
from midlanes.rows import row_of
from midlanes.wholes import is_whole

MOST_STANDS = 100
MOST_WORDS = 40
MOST_EDGE_ROWS = 200

# What each deed has behind its word, part by part.
DEED_PARTS = {
    "go": ("edge",),
    "test": ("edge", "edge"),
    "tell": ("edge",),
    "take": ("edge",),
    "hold": ("number", "number", "edge"),
    "leave": (),
}

# The rows at which a deed may stand, where not all are.
DEED_ROWS = {
    "test": ("zero", "below"),
    "tell": ("tell",),
    "take": ("take",),
}


def fault(program, lane):
    if not 1 <= len(lane) <= MOST_STANDS:
        return (0, "paper")
    # All papers go first: an edge is held against the paper of another stand.
    fits = [paper_fits(program, stand[0], stand[1]) for stand in lane]
    for k in range(len(lane)):
        word = stand_fault(program, lane, fits, k)
        if word is not None:
            return (k, word)
    return round_fault(lane)


def stand_fault(program, lane, fits, k):
    """The first fault of stand k but a round, or None; fits tells of each stand whether its paper is right."""
    if not fits[k]:
        return "paper"
    if not deed_fits(program, lane[k]):
        return "deed"
    if not edges_fit(program, lane, fits, lane[k]):
        return "edge"
    return None


def paper_fits(program, many, paper):
    if not (0 <= many <= MOST_WORDS and 1 <= len(paper) <= MOST_SIGN_FRAMES):
        return False
    if not all([frame_fits(program, many, frame) for frame in paper]):
        return False
    return all([calls(program, paper[k], paper[k + 1]) for k in range(len(paper) - 1)])


def frame_fits(program, many, frame):
    if not (len(frame) == 3 and 0 <= frame[0] < len(program)):
        return False
    if not 0 <= frame[1] < len(program[frame[0]][2]):
        return False
    return len(frame[2]) == program[frame[0]][1] and all([is_form(form, many) for form in frame[2]])


def calls(program, frame, after):
    """Whether a sign frame stands at a call of the def of the one behind it."""
    row = row_of(program, frame)
    return row[0] == "call" and row[2] == after[0]


def deed_fits(program, stand):
    deed = stand[2]
    word = deed[0]
    if word not in DEED_PARTS or len(deed) != len(DEED_PARTS[word]) + 1:
        return False
    if not all([part_fits(part, kind) for part, kind in zip(deed[1:], DEED_PARTS[word])]):
        return False
    if word in DEED_ROWS and row_of(program, stand[1][-1])[0] not in DEED_ROWS[word]:
        return False
    return word != "hold" or 0 <= deed[1] < stand[0]


def part_fits(part, kind):
    if kind == "number":
        return is_whole(part)
    return isinstance(part, tuple) and len(part) == 3


def edges_fit(program, lane, fits, stand):
    own = own_words(stand)
    starts = starts_of(program, stand, own)
    return all([edge_fits(program, lane, fits, own, start, edge) for start, edge in zip(starts, edges_of(stand[2]))])


def edges_of(deed):
    """The edges of a deed, yes ahead of no."""
    if deed[0] == "hold":
        return deed[3:]
    return deed[1:]


def own_words(stand):
    """The words at a stand's edges, each as a form: one more behind a take, and one a number behind a hold."""
    deed = stand[2]
    words = [of_word(w) for w in range(stand[0])]
    if deed[0] == "take":
        words.append(of_word(stand[0]))
    if deed[0] == "hold":
        words[deed[1]] = plain(deed[2])
    return words


def starts_of(program, stand, own):
    """For each edge of a stand the sign frames from which it goes: behind the stand's own row, where it has one."""
    frames = filled(stand[1], own)
    word = stand[2][0]
    row = row_of(program, frames[-1])
    behind = frames[-1][1] + 1
    if word == "test":
        return [at_row(frames, row[2]), at_row(frames, behind)]
    if word == "tell":
        return [at_row(frames, behind)]
    if word == "take":
        return [with_box(frames, row[1], own[-1])]
    return [frames]


def edge_fits(program, lane, fits, own, start, edge):
    rows = edge[0]
    moves = edge[1]
    k = edge[2]
    if not (0 <= rows <= MOST_EDGE_ROWS and 0 <= k < len(lane) and fits[k]):
        return False
    if len(moves) != lane[k][0] or not all([is_form(move, len(own)) for move in moves]):
        return False
    return behind_rows(program, start, rows) == filled(lane[k][1], [put_in(move, own) for move in moves])


def behind_rows(program, frames, rows):
    """The sign frames behind so many silent rows, or None where a row is not silent."""
    for count in range(rows):
        frames = silent(program, frames)
        if frames is None:
            return None
    return frames


def round_fault(lane):
    for k in range(len(lane)):
        if is_on_round(lane, k):
            return (k, "round")
    return None


def is_on_round(lane, k):
    """Whether edges that go no row lead from stand k to itself."""
    at = k
    # Whoever is not back behind as many edges as there are stands never comes back.
    for count in range(len(lane)):
        at = led_rowless(lane[at][2])
        if at is None or at == k:
            return at == k
    return False


def led_rowless(deed):
    """The stand to which a deed's edge leads without going a row, or None."""
    if deed[0] not in ("go", "hold"):
        return None
    edge = edges_of(deed)[0]
    return edge[2] if edge[0] == 0 else None
