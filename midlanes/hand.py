"""Plain runs: a hand goes a program's rows, one by one."""

from midlanes.rows import RECKONINGS, goes_to_row, row_of

MOST_FRAMES = 20


class Hand:
    """A run of plain rows: its frames, the numbers told and left, the rows gone, and its end."""

    def __init__(self, program, inputs):
        # Copies, so that the hand's lists stay its own whatever becomes of those handed in.
        self.program = [(one[0], one[1], list(one[2])) for one in program]
        self.frames = [new_frame(program, 0, [])]
        self.news = []
        self.gone = 0
        self.left = list(inputs)
        self.end = None

    def go(self):
        if self.end is None:
            row = row_of(self.program, self.frames[-1])
            self.end = self.end_at(row)
            if self.end is None:
                self.gone = self.gone + 1
                self.do_row(row)

    def end_at(self, row):
        """The end that the run comes to at this row of its own frame, or None where it goes on."""
        frame = self.frames[-1]
        if row[0] == "back" and len(self.frames) == 1:
            return ("back", frame[2][row[1]])
        if row[0] == "take" and len(self.left) == 0:
            return ("dry", frame[0], frame[1])
        if row[0] == "call" and len(self.frames) >= MOST_FRAMES:
            return ("deep", frame[0], frame[1])
        return None

    def do_row(self, row):
        frame = self.frames[-1]
        boxes = frame[2]
        if row[0] == "call":
            self.frames.append(new_frame(self.program, row[2], [boxes[q] for q in row[3]]))
        elif row[0] == "back":
            self.frames.pop()
            self.give_back(boxes[row[1]])
        else:
            self.do_own(row, boxes)
            frame[1] = row_behind(row, frame[1], boxes)

    def give_back(self, number):
        """Gives the number to the last frame, which waits at its call."""
        frame = self.frames[-1]
        call = row_of(self.program, frame)
        frame[2][call[1]] = number
        frame[1] = frame[1] + 1

    def do_own(self, row, boxes):
        """Does a row that changes no other frame; where the frame goes on is not its affair."""
        if row[0] == "tell":
            self.news.append(boxes[row[1]])
        elif row[0] == "take":
            boxes[row[1]] = self.left.pop(0)
        elif row[0] in RECKONINGS:
            boxes[row[1]] = reckoned(row, boxes)


def run(program, inputs, most):
    hand = Hand(program, inputs)
    while hand.end is None and hand.gone < most:
        hand.go()
    return (end_of(hand), hand.news, hand.gone)


def end_of(hand):
    """The hand's end, or that it went too far where it has none."""
    if hand.end is None:
        return ("far", hand.frames[-1][0], hand.frames[-1][1])
    return hand.end


def new_frame(program, f, numbers):
    """A frame at the first row of def f, with the numbers in its first boxes."""
    return [f, 0, numbers + [0] * (program[f][1] - len(numbers))]


def reckoned(row, boxes):
    """The number that a row of reckoning puts into its box."""
    if row[0] == "put":
        return row[2]
    if row[0] == "copy":
        return boxes[row[2]]
    if row[0] == "plus":
        return boxes[row[2]] + boxes[row[3]]
    if row[0] == "less":
        return boxes[row[2]] - boxes[row[3]]
    return boxes[row[2]] * row[3]


def row_behind(row, at, boxes):
    """The row of its frame that comes behind this one, which is no call and no back."""
    if row[0] == "jump":
        return row[1]
    if row[0] in ("zero", "below") and goes_to_row(row, boxes[row[1]]):
        return row[2]
    return at + 1
