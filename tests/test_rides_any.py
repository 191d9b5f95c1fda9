"""Points 3, 23 and 24: rides of any lanes without a fault are the plain run, whatever the truths, rows and numbers."""

import copy
import random
import unittest

from midlanes.judge import fault
from midlanes.maker import made
from midlanes.rides import ridden, ride

from helpers import Grower, Rider, fields, plain_states, random_program, word, words

WORDS = ("away", "fall", "leave", "short")


def random_truths(rng):
    likely = rng.choice([0, 0.1, 0.1, 0.3, 0.3, 0.6, 1])
    return [rng.random() < likely for k in range(rng.choice([0, 1, 2, 5, 20, 60, 400]))]


class AnyCase(unittest.TestCase):
    def setUp(self):
        self.seen = {}

    def assert_promise(self, program, lane, inputs, most, when):
        """Rides, and holds all that is told against the plain run and a second rider."""
        before = copy.deepcopy((program, lane, inputs, when))
        rider = Rider(program, lane, inputs, most, when)
        expected = rider.told()
        self.assertEqual(ride(program, lane, inputs, most, when), expected)
        hand, log = ridden(program, lane, inputs, most, when)
        self.assertEqual(log, expected[3])
        end = None if rider.end[0] == "far" else rider.end
        self.assertEqual(fields(hand), rider.states[-1][:4] + (end,))
        for (name, k, gone), chances in zip(rider.log, rider.chances):
            self.seen[name] = self.seen.get(name, 0) + 1
            if name == "away" and gone > 0:
                self.assert_called_away(program, lane, inputs, gone, when[:chances], rider)
        self.assertEqual((program, lane, inputs, when), before)
        return rider

    def assert_called_away(self, program, lane, inputs, gone, when, rider):
        """A ride that is called away behind its last row stands there as the plain run does behind as many rows."""
        hand, log = ridden(program, lane, inputs, gone, when)
        self.assertEqual(fields(hand), rider.states[gone][:4] + (None,))

    def assert_called_away_everywhere(self, program, lane, inputs, most, ahead):
        """Called away at each stand in turn, of the first time that the run is led over behind so many chances."""
        chances = 0
        while True:
            when = [False] * ahead + [True] + [False] * chances + [True]
            rider = self.assert_promise(program, lane, inputs, most, when)
            if len(rider.log) < 2 or rider.log[1][0] != "away":
                return chances
            chances += 1


class Any(AnyCase):
    def test_grown_lanes(self):
        rng = random.Random(31)
        rides = 0
        while rides < 4000:
            program = random_program(rng)
            lane = Grower(rng, program, rng.choice([2, 6, 12, 30])).lane()
            if fault(program, lane) is None:
                for trial in range(5):
                    inputs = [rng.choice([0, 1, -1, 7, rng.randint(-9, 9)]) for k in range(rng.choice([0, 1, 5, 40]))]
                    most = rng.choice([0, 1, 2, 7, rng.randint(0, 60), 150, 400])
                    self.assert_promise(program, lane, inputs, most, random_truths(rng))
                rides += 5
        for name in WORDS:
            self.assertGreater(self.seen[name], 60, name)

    def test_made_lanes(self):
        rng = random.Random(32)
        for time in range(400):
            program = random_program(rng)
            f = rng.randrange(len(program))
            known = [(p, rng.choice([0, 1, -1, 5])) for p in range(program[f][1]) if rng.random() < 0.3]
            lane = made(program, f, rng.randrange(len(program[f][2])), known, rng.choice([1, 3, 20, 30]))
            for trial in range(5):
                inputs = [rng.choice([0, 1, -1, rng.randint(-9, 9)]) for k in range(rng.choice([0, 1, 5, 40]))]
                most = rng.choice([1, 2, 7, rng.randint(0, 60), 150, 400])
                self.assert_promise(program, lane, inputs, most, random_truths(rng))
        for name in WORDS:
            self.assertGreater(self.seen[name], 60, name)

    def test_called_away_at_each_stand(self):
        rng = random.Random(33)
        stands = 0
        for time in range(250):
            program = random_program(rng)
            lane = Grower(rng, program, 30).lane()
            if fault(program, lane) is None:
                inputs = [rng.randint(-2, 2) for k in range(8)]
                for ahead in (0, 1, 3):
                    stands += self.assert_called_away_everywhere(program, lane, inputs, rng.choice([9, 40]), ahead)
        self.assertGreater(stands, 500)


class Long(AnyCase):
    ROUND = [(0, 3, [("plus", 0, 0, 1), ("less", 1, 2, 0), ("times", 2, 2, -1), ("put", 0, 4), ("jump", 0)])]

    def lane_of(self, program, lengths):
        """A lane of edges of these lengths, one behind the other, and back to the first stand's place again."""
        papers = []
        deeds = []
        at = 0
        for k, rows in enumerate(lengths):
            frames = self.gone(program, [[0, at, list(words(3))]], rows)
            papers.append((3, [(0, at, words(3))]))
            deeds.append(("go", (rows, tuple(frames[0][2]), (k + 1) % len(lengths))))
            at = frames[0][1]
        self.assertEqual(at, 0)
        return [(many, paper, deed) for (many, paper), deed in zip(papers, deeds)]

    def gone(self, program, frames, rows):
        """The sign frame behind so many rows of reckoning and jumps, told from its worths under three lists."""
        f, at, forms = frames[0]
        for row in range(rows):
            name, *parts = program[f][2][at]
            at = parts[0] if name == "jump" else at + 1
            if name != "jump":
                forms[parts[0]] = self.reckoned(name, parts, forms)
        return [[f, at, forms]]

    def reckoned(self, name, parts, forms):
        if name == "put":
            return (parts[1], ())
        one = {**{w: 0 for w in range(3)}, **{w: a for a, w in forms[parts[1]][1]}}
        c = forms[parts[1]][0]
        if name == "times":
            return (c * parts[2], tuple((one[w] * parts[2], w) for w in range(3) if one[w] * parts[2]))
        sign = 1 if name == "plus" else -1
        other = {**{w: 0 for w in range(3)}, **{w: a for a, w in forms[parts[2]][1]}}
        both = [one[w] + sign * other[w] for w in range(3)]
        return (c + sign * forms[parts[2]][0], tuple((both[w], w) for w in range(3) if both[w]))

    def test_edges_of_up_to_two_hundred_rows(self):
        for lengths in ([200], [5], [1, 199], [199, 1], [150, 50], [3, 7, 200, 200], [200, 200], [1] * 5):
            lane = self.lane_of(self.ROUND, lengths)
            self.assertIsNone(fault(self.ROUND, lane))
            for most in (1, 5, 50, 51, 149, 150, 199, 200, 201, 400):
                for when in ([True], [False, True], [True, True, True], [True, False, True, True], [True] * 30):
                    self.assert_promise(self.ROUND, lane, [], most, when)
                self.assert_called_away_everywhere(self.ROUND, lane, [], most, 0)
        self.assertGreater(self.seen["short"], 50)
        self.assertGreater(self.seen["away"], 50)

    def test_deep_frames(self):
        # Def 1 takes numbers until one is 0, each by a call of its own, and tells their sum on the way back.
        program = [
            (0, 1, [("call", 0, 1, (0,)), ("tell", 0), ("jump", 0)]),
            (1, 3, [("take", 1), ("zero", 1, 5), ("plus", 2, 0, 1), ("call", 0, 1, (2,)), ("tell", 0), ("back", 0)]),
        ]
        for most in (2, 8, 30):
            for f, rows in ((0, 3), (1, 6)):
                for at in range(rows):
                    lane = made(program, f, at, [], most)
                    for many in (1, 15, 16, 18, 25):
                        inputs = [k % 3 + 1 for k in range(many)] + [0, 2, 0]
                        for when in ([True] * 400, [True, False] * 200, [False] * 14 + [True, False, False] * 99,
                                     [False] * 15 + [True], [False] * 16 + [True], [True] + [False] * 399):
                            self.assert_promise(program, lane, inputs, 400, when)
        states, end = plain_states(program, [1] * 25, 400)
        self.assertEqual((len(states[-1][0]), end), (20, ("deep", 1, 3)))

    def test_words_of_a_lane_in_any_order(self):
        # The paper names its words from the last to the first, and one that no box has.
        program = [(0, 3, [("plus", 0, 1, 2), ("take", 1), ("tell", 0), ("jump", 0)])]
        order = (word(3), word(2), word(0))
        lane = [(3, [(0, 0, words(3))], ("go", (1, (word(2), (7, ()), word(1), (0, ((1, 1), (1, 2)))), 1))),
                (4, [(0, 1, order)], ("take", (0, (word(0), word(3), word(4), word(3)), 2))),
                (4, [(0, 2, order)], ("tell", (1, (word(3), word(2), word(0)), 0)))]
        self.assertIsNone(fault(program, lane))
        for most in (0, 1, 2, 3, 4, 5, 60):
            self.assert_called_away_everywhere(program, lane, [3, 1, 4, 1, 5], most, 0)


if __name__ == "__main__":
    unittest.main()
