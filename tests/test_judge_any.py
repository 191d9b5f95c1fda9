"""Points 15 to 17 and 19 to 21: any lanes, judged in two ways."""

import copy
import random
import unittest

from midlanes.judge import fault
from midlanes.rows import formed

from helpers import Grower, LOOP, MAIN, random_program

HUGE = 10 ** 300 - 1


def worth_of(form, numbers):
    return tuple(form[0] + sum(a * numbers[w][s] for a, w in form[1]) for s in range(3))


class Referee:
    """Judges in another way than the package: forms are told apart by their worths under three lists of words."""

    def __init__(self, program, lane):
        self.program = program
        self.lane = lane
        rng = random.Random(17)
        self.words = [tuple(rng.randint(-10 ** 40, 10 ** 40) for s in range(3)) for w in range(41)]

    def fault(self):
        if len(self.lane) not in range(1, 101):
            return (0, "paper")
        for k, (many, paper, deed) in enumerate(self.lane):
            if not self.is_paper(many, paper):
                return (k, "paper")
            if not self.is_deed(many, paper, deed):
                return (k, "deed")
            if not all(self.is_edge(many, paper, deed, edge, which) for which, edge in enumerate(self.edges(deed))):
                return (k, "edge")
        for k in range(len(self.lane)):
            if k in self.reached(k):
                return (k, "round")
        return None

    def edges(self, deed):
        return [part for part in deed[1:] if isinstance(part, tuple)]

    def is_form(self, form, many):
        ws = [w for a, w in form[1]]
        return all(a != 0 for a, w in form[1]) and ws == sorted(set(ws)) and all(w in range(many) for w in ws)

    def is_paper(self, many, paper):
        if many not in range(41) or len(paper) not in range(1, 5):
            return False
        for f, at, forms in paper:
            if f not in range(len(self.program)) or at not in range(len(self.program[f][2])):
                return False
            if len(forms) != self.program[f][1] or not all(self.is_form(form, many) for form in forms):
                return False
        for (f, at, forms), after in zip(paper, paper[1:]):
            if self.program[f][2][at][0::2][:2] != ("call", after[0]):
                return False
        return True

    def is_deed(self, many, paper, deed):
        kinds = "".join("e" if isinstance(part, tuple) else "n" for part in deed[1:])
        wanted = {"go": "e", "test": "ee", "tell": "e", "take": "e", "hold": "nne", "leave": ""}
        if wanted.get(deed[0]) != kinds:
            return False
        row = self.program[paper[-1][0]][2][paper[-1][1]]
        places = {"test": ["zero", "below"], "tell": ["tell"], "take": ["take"]}
        if row[0] not in places.get(deed[0], [row[0]]):
            return False
        return deed[0] != "hold" or deed[1] in range(many)

    def is_edge(self, many, paper, deed, edge, which):
        rows, moves, k = edge
        if rows not in range(201) or k not in range(len(self.lane)) or not self.is_paper(*self.lane[k][:2]):
            return False
        there = many + (deed[0] == "take")
        if len(moves) != self.lane[k][0] or not all(self.is_form(move, there) for move in moves):
            return False
        numbers = list(self.words)
        if deed[0] == "hold":
            numbers[deed[1]] = (deed[2],) * 3
        frames = self.begun(self.worths(paper, numbers), many, deed[0], which)
        for row in range(rows):
            frames = self.gone(frames)
            if frames is None:
                return False
        return frames == self.worths(self.lane[k][1], [worth_of(move, numbers) for move in moves])

    def worths(self, paper, numbers):
        return [[f, at, [worth_of(form, numbers) for form in forms]] for f, at, forms in paper]

    def begun(self, frames, many, name, which):
        f, at, boxes = frames[-1]
        row = self.program[f][2][at]
        if name == "take":
            boxes[row[1]] = self.words[many]
        if name in ("take", "tell", "test"):
            frames[-1][1] = row[2] if name == "test" and which == 0 else at + 1
        return frames

    def gone(self, frames):
        f, at, boxes = frames[-1]
        name, *parts = self.program[f][2][at]
        if name in ("take", "tell") or name == "call" and len(frames) > 3 or name == "back" and len(frames) < 2:
            return None
        if name == "call":
            handed = [boxes[q] for q in parts[2]]
            return frames + [[parts[1], 0, handed + [(0, 0, 0)] * (self.program[parts[1]][1] - len(handed))]]
        if name == "back":
            older = frames[:-1]
            older[-1][2][self.program[older[-1][0]][2][older[-1][1]][1]] = boxes[parts[0]]
            older[-1][1] += 1
            return older
        if name in ("jump", "zero", "below"):
            seen = boxes[parts[0]] if name != "jump" else (0, 0, 0)
            if len(set(seen)) > 1:
                return None
            goes = name == "jump" or (seen[0] == 0 if name == "zero" else seen[0] < 0)
            frames[-1][1] = parts[-1] if goes else at + 1
            return frames
        one = boxes[parts[1]] if name != "put" else None
        other = boxes[parts[2]] if name in ("plus", "less") else None
        reckoned = {"put": lambda s: parts[1], "copy": lambda s: one[s], "plus": lambda s: one[s] + other[s],
                    "less": lambda s: one[s] - other[s], "times": lambda s: one[s] * parts[2]}
        boxes[parts[0]] = tuple(reckoned[name](s) for s in range(3))
        frames[-1][1] = at + 1
        return frames

    def reached(self, k):
        """The stands that are come to from stand k by edges that go no row."""
        found = []
        todo = [k]
        while todo:
            deed = self.lane[todo.pop()][2]
            for rows, moves, to in self.edges(deed):
                if rows == 0 and deed[0] in ("go", "hold") and to not in found:
                    found.append(to)
                    todo.append(to)
        return found


def other_number(rng, n):
    return rng.choice([n + 1, n - 1, n + 1, n - 1, -n, 0, 1, rng.choice([n + 200, 40, 41, HUGE, -HUGE])])


def other_list(rng, things, changed):
    """A list of things with one changed, left out, told twice, or two of them exchanged."""
    things = list(things)
    at = rng.randrange(len(things)) if things else 0
    way = rng.choice(["change"] * 5 + ["drop", "twice", "turn"])
    if not things or way == "turn":
        return things[::-1]
    if way == "change":
        things[at] = changed(rng, things[at])
    elif way == "drop":
        things.pop(at)
    else:
        things.insert(at, things[at])
    return things


def other_form(rng, form):
    c, parts = form
    if rng.random() < 0.4:
        return (other_number(rng, c), parts)
    if not parts:
        return (c, ((rng.choice([0, 1, -1]), rng.randint(-1, 3)),))
    return (c, tuple(other_list(rng, parts, other_pair)))


def other_pair(rng, pair):
    a, w = pair
    return (other_number(rng, a), w) if rng.random() < 0.5 else (a, other_number(rng, w))


def other_frame(rng, frame):
    f, at, forms = frame
    way = rng.randrange(3)
    if way == 0:
        return (other_number(rng, f), at, forms)
    if way == 1:
        return (f, other_number(rng, at), forms)
    return (f, at, tuple(other_list(rng, forms, other_form)))


def other_part(rng, part):
    if not isinstance(part, tuple):
        return other_number(rng, part) if rng.random() < 0.9 else (0, (), 0)
    rows, moves, k = part
    way = rng.randrange(4)
    if way == 0:
        return (other_number(rng, rows), moves, k)
    if way == 1:
        return (rows, moves, other_number(rng, k))
    if way == 2:
        return (rows, tuple(other_list(rng, moves, other_form)), k)
    return (0, moves, k) if rng.random() < 0.9 else rows


def other_lane(rng, lane):
    """The lane with one thing at one of its stands told otherwise."""
    k = rng.randrange(len(lane))
    many, paper, deed = lane[k]
    way = rng.randrange(8)
    if way == 0:
        many = other_number(rng, many)
    elif way < 3:
        paper = other_list(rng, paper, other_frame)
    elif way == 3:
        deed = (rng.choice(["go", "test", "tell", "take", "hold", "leave", "stay"]),) + deed[1:]
    else:
        deed = deed[:1] + tuple(other_list(rng, deed[1:], other_part))
    return lane[:k] + [(many, paper, deed)] + lane[k + 1:]


class Any(unittest.TestCase):
    def assert_judged(self, program, lane):
        """Judges in both ways, and tells the fault."""
        self.assertTrue(formed(program))
        before = copy.deepcopy((program, lane))
        told = fault(program, lane)
        self.assertEqual(told, Referee(program, lane).fault(), f"{program!r:.2000}\n{lane!r:.4000}")
        self.assertEqual((program, lane), before)
        return told

    def test_lanes_right_and_wrong(self):
        rng = random.Random(21)
        told = {}
        deeds = {}
        for time in range(600):
            program = random_program(rng)
            lane = Grower(rng, program, rng.choice([2, 6, 12, 30])).lane()
            self.assertIn(self.assert_judged(program, lane), [None] + [(k, "round") for k in range(100)])
            for stand in lane:
                deeds[stand[2][0]] = deeds.get(stand[2][0], 0) + 1
            for change in range(8):
                other = lane
                for trial in range(rng.choice([1, 1, 2])):
                    other = other_lane(rng, other)
                judged = self.assert_judged(program, other)
                name = judged and judged[1]
                told[name] = told.get(name, 0) + 1
        self.assertEqual(set(told), {None, "paper", "deed", "edge", "round"})
        self.assertGreater(min(told.values()), 20)
        self.assertEqual(set(deeds), {"go", "test", "tell", "take", "hold", "leave"})
        self.assertGreater(min(deeds.values()), 100)

    def test_lanes_of_any_numbers_and_lengths(self):
        rng = random.Random(22)
        number = lambda: rng.choice([0, 0, 0, 1, 1, 2, -1, 40, 41, HUGE, -HUGE])
        form = lambda: (number(), tuple((number(), number()) for k in range(rng.choice([0, 0, 1, 2, 3]))))
        forms = lambda: tuple(form() for k in range(rng.choice([0, 1, 1, 2, 3, 9])))
        edge = lambda: (number(), forms(), number())
        part = lambda: number() if rng.random() < 0.3 else edge()
        for time in range(1500):
            lane = []
            for k in range(rng.choice([0, 1, 1, 1, 1, 2, 3, 5])):
                paper = [(number(), number(), forms()) for frame in range(rng.choice([0, 1, 1, 1, 2, 4, 5]))]
                name = rng.choice(["go", "test", "tell", "take", "hold", "leave", "", "stay"])
                deed = (name,) + tuple(part() for k in range(rng.choice([0, 0, 1, 1, 1, 2, 3, 4])))
                lane.append((number(), paper, deed))
            for program in (LOOP, MAIN):
                self.assert_judged(program, lane)


if __name__ == "__main__":
    unittest.main()
