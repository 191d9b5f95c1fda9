"""The maker: makes a lane for a place, and for numbers that were seen in its boxes.

From each stand on its edges go silent rows as far as they can. What a stand's paper knows are plain forms; all else
are words, one for each box. Whoever comes to a place again with other numbers gets a stand that knows less, so that
rounds are closed soon.
"""

from midlanes.forms import is_plain, of_word, plain
from midlanes.judge import MOST_EDGE_ROWS, own_words, starts_of
from midlanes.papers import silent
from midlanes.rows import row_of

# Greater numbers are not reckoned on with but kept in words: a lane's numbers stay short enough to be written.
MOST_BITS = 300

# The deeds of the rows that are not silent, where the lane need not be left.
ROW_DEEDS = {
    "zero": "test",
    "below": "test",
    "tell": "tell",
    "take": "take",
}


def made(program, f, at, known, most):
    making = Making(program, most)
    forms = [of_word(w) for w in range(program[f][1])]
    for box, n in known:
        making.add_hold([(f, at, tuple(forms))], box, n)
        forms[box] = plain(n)
    making.add_stand([(f, at, tuple(forms))])
    making.add_edges()
    return making.lane


class Making:
    """A lane in the making: its stands, at first with deeds that have no edges yet."""

    def __init__(self, program, most):
        self.program = program
        self.most = most
        self.lane = []
        # The stands but the holds, by the defs and rows of their sign frames.
        self.places = {}
        # How many stands are neither holds nor leaves.
        self.going = 0

    def add_hold(self, frames, box, n):
        """Adds a stand that holds the box, one of words alone so far, to the number n."""
        paper = loosened(frames, None)
        w = paper[0][2][box][1][0][1]
        self.lane.append((words_of(paper), paper, ("hold", w, n)))

    def add_stand(self, frames):
        """Adds a stand of which the sign frames are one case, and tells its number."""
        k = len(self.lane)
        others = self.places.setdefault(places_of(frames), [])
        paper = loosened(frames, self.lane[others[-1]][1] if len(others) > 0 else None)
        self.lane.append((words_of(paper), paper, (self.deed_word(paper),)))
        others.append(k)
        return k

    def deed_word(self, paper):
        word = "go"
        if silent(self.program, paper) is None:
            word = ROW_DEEDS.get(row_of(self.program, paper[-1])[0], "leave")
        if word == "leave" or self.going >= self.most:
            return "leave"
        self.going = self.going + 1
        return word

    def add_edges(self):
        """Adds their edges to all deeds, also to those of the stands that are added meanwhile."""
        k = 0
        while k < len(self.lane):
            stand = self.lane[k]
            self.lane[k] = (stand[0], stand[1], stand[2] + tuple(self.edges_from(k)))
            k = k + 1

    def edges_from(self, k):
        stand = self.lane[k]
        word = stand[2][0]
        if word == "leave":
            return []
        starts = starts_of(self.program, stand, own_words(stand))
        if word == "hold":
            # Whoever falls falls ahead of any row, and what comes behind a hold was added right behind it.
            return [self.edge_to(k + 1, starts[0], 0)]
        return [self.edge_from(start, 1 if word == "go" else 0) for start in starts]

    def edge_from(self, frames, least):
        """The edge from these sign frames by as many rows as it can go, but at least so many."""
        rows = 0
        behind = frames
        while behind is not None:
            frames = behind
            if rows >= least and (rows == MOST_EDGE_ROWS or is_great(frames) or self.goes_on_at(frames)):
                break
            behind = silent(self.program, frames)
            rows = rows + 1 if behind is not None else rows
        k = self.stand_for(frames)
        return self.edge_to(self.add_stand(frames) if k is None else k, frames, rows)

    def edge_to(self, k, frames, rows):
        return (rows, tuple(moves_into(self.lane[k][1], frames)), k)

    def goes_on_at(self, frames):
        """Whether there is a stand for the sign frames that is no leave."""
        k = self.stand_for(frames)
        return k is not None and self.lane[k][2][0] != "leave"

    def stand_for(self, frames):
        """The first stand of which the sign frames are one case, or None."""
        for k in self.places.get(places_of(frames), []):
            if is_case(frames, self.lane[k][1]):
                return k
        return None


def places_of(frames):
    """The defs and rows of sign frames."""
    return tuple([frame[:2] for frame in frames])


def is_great(frames):
    # No row puts a number into another frame than the one that is the last behind it.
    return any([is_great_form(form) for form in frames[-1][2]])


def is_great_form(form):
    numbers = [form[0]] + [a for a, w in form[1]]
    return any([n.bit_length() > MOST_BITS for n in numbers])


def loosened(frames, other):
    """A paper of which the sign frames are one case: plain forms stay where they are short, and the other paper's too.

    The other one is None, or a paper of the same defs and rows.
    """
    paper = []
    many = 0
    for d, frame in enumerate(frames):
        forms = []
        for p, form in enumerate(frame[2]):
            stays = is_plain(form) and not is_great_form(form) and (other is None or other[d][2][p] == form)
            forms.append(form if stays else of_word(many))
            many = many if stays else many + 1
        paper.append((frame[0], frame[1], tuple(forms)))
    return paper


def words_of(paper):
    """How many words a paper has, each box that is not plain having its own."""
    return sum([len([form for form in frame[2] if not is_plain(form)]) for frame in paper])


def is_case(frames, paper):
    """Whether the sign frames, of the paper's defs and rows, have the paper's numbers where it knows any."""
    return all([pair[0] == pair[1] for pair in box_pairs(frames, paper) if is_plain(pair[1])])


def moves_into(paper, frames):
    """The forms for the paper's words that make it the sign frames."""
    return [pair[0] for pair in box_pairs(frames, paper) if not is_plain(pair[1])]


def box_pairs(frames, paper):
    """The forms of the sign frames and of the paper, box by box."""
    pairs = []
    for frame, own in zip(frames, paper):
        pairs.extend(list(zip(frame[2], own[2])))
    return pairs
