"""What several tests need: forms, programs and lanes, and second ways to tell what the package tells."""

from midlanes.papers import silent

LEAVE = ("leave",)


def num(n):
    return (n, ())


def word(w):
    return (0, ((1, w),))


def words(many):
    return tuple(word(w) for w in range(many))


A, B, C = words(3)

# A row that leads to itself: any number of rows may be gone there, and any edge leads to a like stand.
LOOP = [(0, 1, [("jump", 0)])]

MAIN = [
    (0, 3, [("put", 1, 5), ("plus", 0, 0, 1), ("take", 2), ("tell", 0), ("zero", 2, 7), ("call", 1, 1, (0, 2)),
            ("jump", 0), ("back", 0)]),
    (2, 2, [("less", 0, 0, 1), ("below", 0, 3), ("back", 0), ("times", 0, 0, -1), ("back", 0)]),
]
A_LESS_B = (0, ((1, 0), (-1, 1)))
B_LESS_A = (0, ((-1, 0), (1, 1)))
# A lane without a fault that has each of the deeds.
BASE = [
    (3, [(0, 0, (A, B, C))], ("go", (2, ((5, ((1, 0),)), C), 1))),
    (2, [(0, 2, (A, num(5), B))], ("take", (0, (A, C), 2))),
    (2, [(0, 3, (A, num(5), B))], ("tell", (0, (A, B), 3))),
    (2, [(0, 4, (A, num(5), B))], ("test", (0, (A, B), 4), (0, (A, B), 5))),
    (2, [(0, 7, (A, num(5), B))], LEAVE),
    (2, [(0, 5, (A, num(5), B))], ("hold", 1, 3, (0, (A,), 7))),
    (2, [(0, 5, (A, num(5), B)), (1, 1, (A_LESS_B, B))],
     ("test", (3, (A, B_LESS_A, B), 0), (2, (A, A_LESS_B, B), 0))),
    (1, [(0, 5, (A, num(5), num(3)))], ("go", (2, (A, num(3)), 6))),
]


def worth_of(form, numbers):
    return form[0] + sum(a * numbers[w] for a, w in form[1])


def lists_in(thing):
    """All the lists that a thing holds, itself among them; a list that is held twice comes twice."""
    found = [thing] if isinstance(thing, list) else []
    if isinstance(thing, (list, tuple)):
        for part in thing:
            found += lists_in(part)
    return found


def edges_of(deed):
    return [part for part in deed[1:] if isinstance(part, tuple)]


class Reckoner:
    """A run told in another way than the package's own: each row makes all its state anew, from tuples."""

    def __init__(self, program, inputs):
        self.program = program
        self.frames = ((0, 0, (0,) * program[0][1]),)
        self.news = ()
        self.gone = 0
        self.left = tuple(inputs)
        self.end = None

    def row(self):
        f, at, boxes = self.frames[-1]
        return self.program[f][2][at]

    def go(self):
        if self.end is not None:
            return
        word, *parts = self.row()
        f, at, boxes = self.frames[-1]
        if word == "back" and len(self.frames) == 1:
            self.end = ("back", boxes[parts[0]])
        elif word == "take" and not self.left:
            self.end = ("dry", f, at)
        elif word == "call" and len(self.frames) == 20:
            self.end = ("deep", f, at)
        else:
            self.gone += 1
            self.do(word, parts, f, at, boxes)

    def do(self, word, parts, f, at, boxes):
        older = self.frames[:-1]
        if word == "call":
            p, g, qs = parts
            handed = tuple(boxes[q] for q in qs)
            self.frames += ((g, 0, handed + (0,) * (self.program[g][1] - len(qs))),)
            return
        if word == "back":
            g, wait, others = older[-1]
            p = self.program[g][2][wait][1]
            self.frames = older[:-1] + ((g, wait + 1, others[:p] + (boxes[parts[0]],) + others[p + 1:]),)
            return
        if word == "tell":
            self.news += (boxes[parts[0]],)
        gets = {"put": lambda: parts[1], "copy": lambda: boxes[parts[1]], "take": lambda: self.left[0],
                "plus": lambda: boxes[parts[1]] + boxes[parts[2]], "less": lambda: boxes[parts[1]] - boxes[parts[2]],
                "times": lambda: boxes[parts[1]] * parts[2]}
        if word in gets:
            boxes = boxes[:parts[0]] + (gets[word](),) + boxes[parts[0] + 1:]
        if word == "take":
            self.left = self.left[1:]
        leads = {"jump": lambda: True, "zero": lambda: boxes[parts[0]] == 0, "below": lambda: boxes[parts[0]] < 0}
        goes = word in leads and leads[word]()
        self.frames = older + ((f, parts[-1] if goes else at + 1, boxes),)


def fields(hand):
    """All of a hand's state but its program, as tuples."""
    return (tuple((f, at, tuple(boxes)) for f, at, boxes in hand.frames), tuple(hand.news), hand.gone, tuple(hand.left),
            hand.end)


def plain_states(program, inputs, most):
    """The fields of the plain run behind no row, one row and so on, and the run's end."""
    plain = Reckoner(program, inputs)
    states = [fields(plain)]
    while plain.end is None and plain.gone < most:
        plain.go()
        if plain.end is None:
            states.append(fields(plain))
    return states, plain.end or ("far", *plain.frames[-1][:2])


class Rider:
    """Rides told from the plain run: behind so many rows a ride is where the plain run is.

    What it tells beside the end, the news and the rows gone is the log, and for each of its tuples how many chances
    there were up to it.
    """

    def __init__(self, program, lane, inputs, most, when):
        self.program = program
        self.lane = lane
        self.most = most
        self.when = when
        self.states, self.end = plain_states(program, inputs, most)
        self.gone = 0
        self.asked = 0
        self.log = []
        self.chances = []

    def told(self):
        while self.goes_on():
            pass
        news = list(self.states[self.gone][1])
        return (self.end, news, self.gone, self.log)

    def chance(self):
        self.asked += 1
        return self.when[self.asked - 1] if self.asked <= len(self.when) else False

    def note(self, name, k):
        self.log.append((name, k, self.gone))
        self.chances.append(self.asked)

    def frames(self):
        return self.states[self.gone][0]

    def goes_on(self):
        f, at, boxes = self.frames()[-1]
        doors = [k for k, (many, paper, deed) in enumerate(self.lane)
                 if many == len(boxes) and paper == [(f, at, words(many))]]
        if self.gone == self.most:
            return False
        if doors and len(self.frames()) < 18 and self.chance():
            self.note("over", doors[0])
            self.goes_lane(doors[0], boxes, len(self.frames()) - 1)
            return True
        if self.gone == len(self.states) - 1:
            return False
        self.gone += 1
        return True

    def goes_lane(self, k, numbers, waiting):
        name = None
        while name is None:
            many, paper, deed = self.lane[k]
            shown = tuple((f, at, tuple(worth_of(form, numbers) for form in forms)) for f, at, forms in paper)
            if (len(numbers), shown) != (many, self.frames()[waiting:]):
                raise AssertionError(f"stand {k} is not where the plain run is behind {self.gone} rows")
            name, edge = ("away", None) if self.chance() else self.way(deed, numbers)
            if name is None:
                if deed[0] == "take":
                    numbers = (*numbers, self.states[self.gone][3][0])
                self.gone += edge[0] + (deed[0] in ("test", "tell", "take"))
                numbers = tuple(worth_of(move, numbers) for move in edge[1])
                k = edge[2]
        self.note(name, k)

    def way(self, deed, numbers):
        """The word by which the run is led away, or None and the edge that is gone."""
        if deed[0] == "leave":
            return "leave", None
        if deed[0] == "hold" and numbers[deed[1]] != deed[2]:
            return "fall", None
        f, at, boxes = self.frames()[-1]
        row = self.program[f][2][at]
        edge = edges_of(deed)[0]
        if deed[0] == "test":
            seen = boxes[row[1]]
            edge = deed[1] if (seen == 0 if row[0] == "zero" else seen < 0) else deed[2]
        lacks = deed[0] == "take" and self.states[self.gone][3] == ()
        own = 1 if deed[0] in ("test", "tell", "take") else 0
        return ("short" if lacks or self.gone + own + edge[0] > self.most else None), edge


def random_row(rng, boxes, count, takes):
    box = lambda: rng.randrange(boxes)
    name = rng.choice(("put", "copy", "plus", "less", "times", "take", "tell", "zero", "below", "call") * 3
                      + ("jump", "back"))
    if name == "call":
        f = rng.randrange(len(takes))
        return (name, box(), f, tuple(box() for k in range(takes[f])))
    if name == "put":
        return (name, box(), rng.choice([0, 1, -1, 5]))
    if name == "times":
        return (name, box(), box(), rng.choice([0, 1, -1, 2, -99]))
    if name == "jump":
        return (name, rng.randrange(count))
    if name in ("zero", "below"):
        return (name, box(), rng.randrange(count))
    return (name, *[box() for k in range({"copy": 2, "plus": 3, "less": 3}.get(name, 1))])


def random_program(rng):
    boxes = [rng.randint(1, 3) for k in range(rng.randint(1, 3))]
    takes = [0] + [rng.randint(0, many) for many in boxes[1:]]
    program = []
    for f, many in enumerate(boxes):
        count = rng.randint(3, 8)
        rows = [random_row(rng, many, count, takes) for at in range(count - 1)]
        last = rng.choice([("back", rng.randrange(many)), ("jump", rng.randrange(count)), ("jump", 0)])
        program.append((takes[f], many, rows + [last]))
    return program


class Grower:
    """Makes lanes of all kinds of stands, right ones for the most part."""

    def __init__(self, rng, program, most):
        self.rng = rng
        self.program = program
        self.most = most
        f = rng.randrange(len(program))
        self.papers = [(program[f][1], [(f, rng.randrange(len(program[f][2])), words(program[f][1]))])]

    def lane(self):
        deeds = []
        while len(deeds) < len(self.papers):
            deeds.append(self.deed(*self.papers[len(deeds)]) or LEAVE)
        return [(many, paper, deed) for (many, paper), deed in zip(self.papers, deeds)]

    def put_in(self, form, forms):
        numbers = {}
        c = form[0]
        for a, w in form[1]:
            c += a * forms[w][0]
            for b, v in forms[w][1]:
                numbers[v] = numbers.get(v, 0) + a * b
        return (c, tuple((numbers[v], v) for v in sorted(numbers) if numbers[v]))

    def edge(self, frames, many, least):
        """An edge from these sign frames by some silent rows, or None where no stand may be added."""
        rows = 0
        for trial in range(self.rng.choice([least, 1, 3, 6])):
            behind = silent(self.program, frames)
            if behind is not None:
                rows += 1
                frames = behind
        paper, moves = self.generalized(frames, many)
        stand = (len(moves), paper)
        if stand not in self.papers:
            if len(self.papers) >= self.most:
                return None
            self.papers.append(stand)
        return (rows, tuple(moves), self.papers.index(stand))

    def generalized(self, frames, many):
        """A paper that the sign frames are one of, and the moves that make it these."""
        way = self.rng.choice(["same", "words", "all", "all"])
        if way == "same" and many <= 40:
            return frames, list(words(many))
        moves = []
        paper = []
        for f, at, forms in frames:
            told = []
            for form in forms:
                if way == "words" and form[1] == () and abs(form[0]) < 10:
                    told.append(form)
                else:
                    told.append((3, ((1, len(moves)),)) if self.rng.random() < 0.1 else word(len(moves)))
                    moves.append((form[0] - told[-1][0], form[1]))
            paper.append((f, at, tuple(told)))
        return paper, moves

    def deed(self, many, paper):
        f, at, forms = paper[-1]
        row = self.program[f][2][at]
        moved = lambda to, boxes: paper[:-1] + [(f, to, boxes)]
        if self.rng.random() < 0.15 and many > 0:
            w, n = self.rng.randrange(many), self.rng.choice([0, 1, -1, 7])
            held = list(words(many))
            held[w] = num(n)
            known = [(g, wait, tuple(self.put_in(form, held) for form in others)) for g, wait, others in paper]
            edge = self.edge(known, many, 0)
            return edge and ("hold", w, n, edge)
        if row[0] in ("zero", "below"):
            yes = self.edge(moved(row[2], forms), many, 0)
            no = self.edge(moved(at + 1, forms), many, 0)
            return yes and no and ("test", yes, no)
        if row[0] == "tell":
            edge = self.edge(moved(at + 1, forms), many, 0)
            return edge and ("tell", edge)
        if row[0] == "take":
            edge = self.edge(moved(at + 1, forms[:row[1]] + (word(many),) + forms[row[1] + 1:]), many + 1, 0)
            return edge and ("take", edge)
        if silent(self.program, paper) is None:
            return None
        edge = self.edge(paper, many, self.rng.choice([0, 1, 1, 1]))
        return edge and ("go", edge)
