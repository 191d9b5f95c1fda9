"""Points 2 and 3 over the whole program: what is handed in and told, the names of the interface, the promise."""

import copy
import importlib
import inspect
import unittest

from midlanes.books import answer, read_lane, shown_lane
from midlanes.errors import Faulty, LaneError, NoText, NotFormed
from midlanes.hand import Hand, run
from midlanes.judge import fault
from midlanes.keeper import kept_run
from midlanes.maker import made
from midlanes.rides import ridden, ride, words_in
from midlanes.texts import shown

from helpers import A, B, BASE, LEAVE, MAIN, Rider, edges_of, lists_in, num

FORM = (3, ((1, 0), (-2, 1)))
FRAMES = [(0, 5, (A, num(5), B)), (1, 0, (A, B))]
TRUTHS = [True, False, False, True, True, False]
MAIN_TEXT = shown(MAIN)
BASE_TEXT = shown_lane(BASE)

# Each function of the interface: its file, its name, its arguments' names, and what is handed in.
FUNCTIONS = [
    ("forms", "plain", "n", [7]),
    ("forms", "of_word", "w", [3]),
    ("forms", "plus", "one other", [FORM, A]),
    ("forms", "less", "one other", [FORM, A]),
    ("forms", "times", "form n", [FORM, -4]),
    ("forms", "put_in", "form forms", [FORM, [B, FORM]]),
    ("forms", "worth", "form words", [FORM, [10, 20]]),
    ("forms", "is_plain", "form", [FORM]),
    ("forms", "is_form", "thing many", [FORM, 2]),
    ("rows", "nexts", "rows at", [MAIN[0][2], 4]),
    ("rows", "formed", "program", [MAIN]),
    ("texts", "shown", "program", [MAIN]),
    ("texts", "read", "text", [MAIN_TEXT]),
    ("texts", "read_whole", "text most", ["-120", 3]),
    ("hand", "run", "program inputs most", [MAIN, [3, 0], 100]),
    ("papers", "silent", "program frames", [MAIN, FRAMES]),
    ("papers", "is_door", "program stand", [MAIN, BASE[0]]),
    ("judge", "fault", "program lane", [MAIN, BASE]),
    ("rides", "frames_of", "paper words", [FRAMES, [8, 9]]),
    ("rides", "ride", "program lane inputs most when", [MAIN, BASE, [3, 0], 100, TRUTHS]),
    ("maker", "made", "program f at known most", [MAIN, 0, 2, [(0, 5), (2, 3)], 20]),
    ("keeper", "kept_run", "program inputs most heat falls", [MAIN, [3, 3, 3, 4, 3, 0], 200, 2, 1]),
    ("books", "shown_lane", "lane", [BASE]),
    ("books", "read_lane", "text", [BASE_TEXT]),
    ("books", "answer", "text lane_text inputs most when", [MAIN_TEXT, BASE_TEXT, [3, 0], 100, TRUTHS]),
]
HAND_FIELDS = ("program", "frames", "news", "gone", "left", "end")


def ids(thing):
    return {id(one) for one in lists_in(thing)}


def hand_lists(hand):
    return [hand.program, hand.frames, hand.news, hand.left]


class Interface(unittest.TestCase):
    def test_names_and_arguments(self):
        for file, name, arguments, handed in FUNCTIONS:
            one = getattr(importlib.import_module("midlanes." + file), name)
            self.assertEqual(list(inspect.signature(one).parameters), arguments.split(), name)
            self.assertEqual(one.__module__, "midlanes." + file)
        self.assertEqual(list(inspect.signature(Hand).parameters), ["program", "inputs"])
        self.assertEqual(list(inspect.signature(words_in).parameters), ["hand"])
        self.assertEqual(list(inspect.signature(ridden).parameters), "program lane inputs most when".split())
        self.assertEqual(list(inspect.signature(Faulty).parameters), ["k", "word"])

    def test_refusals(self):
        kinds = (NoText, NotFormed, Faulty)
        self.assertEqual([kind.__bases__ for kind in kinds + (LaneError,)], [(LaneError,)] * 3 + [(ValueError,)])

    def test_a_hands_fields(self):
        hand = Hand(MAIN, [3, 0])
        other = ridden(MAIN, BASE, [3, 0], 7, TRUTHS)[0]
        for name in HAND_FIELDS:
            self.assertTrue(hasattr(hand, name) and hasattr(other, name), name)


class HandedIn(unittest.TestCase):
    def test_each_function(self):
        """What is handed in stays as it was; what is told is new, and the same each time."""
        for file, name, arguments, handed in FUNCTIONS:
            one = getattr(importlib.import_module("midlanes." + file), name)
            handed = copy.deepcopy(handed)
            before = copy.deepcopy(handed)
            first = one(*handed)
            kept = copy.deepcopy(first)
            again = one(*handed)
            self.assertEqual(handed, before, name)
            self.assertEqual(first, kept, name)
            self.assertEqual(again, first, name)
            self.assertEqual(one(*copy.deepcopy(handed)), first, name)
            self.assertEqual(len(ids(first)), len(lists_in(first)), name)
            self.assertFalse(ids(first) & ids(again), name)
            self.assertFalse(ids(first) & ids(handed), name)

    def test_a_hand(self):
        program, inputs = copy.deepcopy((MAIN, [3, 0]))
        hand = Hand(program, inputs)
        while hand.end is None:
            words = words_in(hand)
            self.assertNotIn(id(words), ids(hand.frames))
            hand.go()
        self.assertEqual((program, inputs), (MAIN, [3, 0]))
        # The lists that are made here are kept: what is no more may have its id given to another.
        handed, lists = [program, inputs], hand_lists(hand)
        self.assertFalse(ids(lists) & ids(handed))

    def test_a_ridden_hand(self):
        handed = copy.deepcopy([MAIN, BASE, [3, 0], 7, TRUTHS])
        first, log = ridden(*handed)
        again, other = ridden(*handed)
        self.assertEqual(handed, [MAIN, BASE, [3, 0], 7, TRUTHS])
        self.assertEqual(log, other)
        for name in HAND_FIELDS:
            self.assertEqual(getattr(first, name), getattr(again, name))
        told = hand_lists(first) + [log]
        self.assertEqual(len(ids(told)), len(lists_in(told)))
        told_again = hand_lists(again) + [other]
        self.assertFalse(ids(told) & ids(told_again))
        self.assertFalse(ids(told) & ids(handed))
        first.go()
        self.assertEqual(handed, [MAIN, BASE, [3, 0], 7, TRUTHS])

    def test_what_is_told_is_the_askers_own(self):
        lane = made(MAIN, 0, 0, [], 20)
        told = ride(MAIN, lane, [3, 0], 100, [True])
        told[1].clear()
        told[3].clear()
        kept = kept_run(MAIN, [3, 3, 3, 0], 200, 2, 1)
        for f, at, one in kept[4]:
            one.clear()
        lane.clear()
        self.assertEqual(ride(MAIN, made(MAIN, 0, 0, [], 20), [3, 0], 100, [True])[:3], run(MAIN, [3, 0], 100))
        self.assertTrue(all(one for f, at, one in kept_run(MAIN, [3, 3, 3, 0], 200, 2, 1)[4]))


class Greatest(unittest.TestCase):
    """The greatest numbers and the longest lists that are handed in."""

    def test_four_hundred_numbers_and_truths(self):
        program = [(0, 2, [("take", 0), ("plus", 1, 1, 0), ("tell", 1), ("jump", 0)])]
        n = 10 ** 60 - 1
        inputs = [n, -n] * 200
        lane = made(program, 0, 0, [], 30)
        for when in ([True] * 400, [True, False] * 200, [False] * 399 + [True]):
            self.assertEqual(ride(program, lane, inputs, 400, when)[:3], run(program, inputs, 400))
        self.assertEqual(kept_run(program, inputs, 400, 2, 1)[:3], run(program, inputs, 400))
        self.assertEqual(run(program, inputs, 400)[1], [n, 0] * 50)

    def test_somewhat_beyond(self):
        program = [(0, 2, [("take", 0), ("plus", 1, 1, 0), ("tell", 1), ("jump", 0)])]
        n = 10 ** 65
        inputs = [n] * 450
        lane = made(program, 0, 0, [(0, n)], 35)
        self.assertIsNone(fault(program, lane))
        self.assertEqual(ride(program, lane, inputs, 450, [True] * 450)[:3], run(program, inputs, 450))
        self.assertEqual(kept_run(program, inputs, 450, 2, 1)[:3], run(program, inputs, 450))

    def test_a_lane_of_a_hundred_stands(self):
        program = [(0, 1, [("plus", 0, 0, 0), ("jump", 0)])]
        double = (0, ((2, 0),))
        lane = [(1, [(0, 0, (A,))], ("go", (2, (double,), (k + 1) % 100))) for k in range(100)]
        self.assertIsNone(fault(program, lane))
        self.assertEqual(read_lane(shown_lane(lane)), lane)
        told = ride(program, lane, [], 400, [True])
        self.assertEqual(told, (("far", 0, 0), [], 400, [("over", 0, 0), ("short", 0, 400)]))
        told = ride(program, lane, [], 400, [True] + [False] * 99 + [True])
        self.assertEqual(told[3], [("over", 0, 0), ("away", 99, 198)])

    def test_forty_words(self):
        moves = tuple((0, ((10 ** 300 - 1, (w + 1) % 40), (1, w))) if w % 40 != 39 else (1, ((1, 0), (1, 39)))
                      for w in range(1, 40))
        lane = [(1, [(0, 0, (A,))], ("go", (1, (A,) * 40, 1))),
                (40, [(0, 0, (A,))], ("go", (1, (A,) + tuple(self.rising(move) for move in moves), 1)))]
        program = [(0, 1, [("jump", 0)])]
        self.assertIsNone(fault(program, lane))
        self.assertEqual(ride(program, lane, [], 60, [True])[3], [("over", 0, 0), ("short", 1, 60)])

    def rising(self, form):
        return (form[0], tuple(sorted(form[1], key=lambda pair: pair[1])))


class Promise(unittest.TestCase):
    """Point 3 from end to end: made, judged, shown, read, ridden, kept."""

    # The sum of the numbers from 1 to the one taken, by a round and by calls.
    SUMS = [
        (0, 3, [("take", 0), ("zero", 0, 7), ("call", 1, 1, (0,)), ("call", 2, 2, (0,)), ("tell", 1), ("tell", 2),
                ("jump", 0), ("back", 1)]),
        (1, 3, [("put", 2, 1), ("plus", 1, 1, 0), ("less", 0, 0, 2), ("zero", 0, 5), ("jump", 1), ("back", 1)]),
        (1, 3, [("zero", 0, 5), ("put", 1, 1), ("less", 1, 0, 1), ("call", 2, 2, (1,)), ("plus", 0, 0, 2),
                ("back", 0)]),
    ]

    def test_from_end_to_end(self):
        for inputs, most in (([5, 3, 0], 400), ([9, 9, 9], 300), ([18, 0], 400), ([19, 0], 400), ([], 9)):
            plain = run(self.SUMS, inputs, most)
            text = " ".join([str(n) for n in plain[1]] + ["/"] + [str(part) for part in plain[0]])
            for f, (takes, boxes, rows) in enumerate(self.SUMS):
                for at in range(len(rows)):
                    lane = made(self.SUMS, f, at, [(boxes - 1, 0)] if at % 2 else [], 20)
                    self.assertIsNone(fault(self.SUMS, lane))
                    for when in ([], [True], [True, False, False, True] * 30, [True] * 60):
                        told = ride(self.SUMS, lane, inputs, most, when)
                        self.assertEqual(told, Rider(self.SUMS, lane, inputs, most, when).told())
                        self.assertEqual(told[:3], plain)
                        self.assertEqual(answer(shown(self.SUMS), shown_lane(lane), inputs, most, when), text)
            for heat in (2, 3, 9):
                for falls in (1, 2, 50):
                    kept = kept_run(self.SUMS, inputs, most, heat, falls)
                    self.assertEqual(kept[:3], plain)
                    self.assertEqual([fault(self.SUMS, lane) for f, at, lane in kept[4]], [None] * len(kept[4]))
        self.assertEqual(run(self.SUMS, [5, 3, 0], 400)[:2], (("back", 6), [15, 15, 6, 6]))

    def test_a_fault_is_shown_at_the_first_stand_that_is_wrong(self):
        lane = made(self.SUMS, 1, 1, [(2, 1)], 20)
        for k, (many, paper, deed) in enumerate(lane):
            wrong = lane[:k] + [(41, paper, deed)] + lane[k + 1:]
            first = min([j for j in range(k) if k in [edge[2] for edge in edges_of(lane[j][2])]] + [k])
            self.assertEqual(fault(self.SUMS, wrong), (first, "paper" if first == k else "edge"))
        self.assertEqual(fault(self.SUMS, [(3, lane[0][1], LEAVE), (0, [], LEAVE)]), (1, "paper"))


if __name__ == "__main__":
    unittest.main()
