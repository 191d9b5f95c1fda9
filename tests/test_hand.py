"""Points 2, 7, 8, 11 and 12: hands and plain runs."""

import copy
import random
import unittest

from midlanes.hand import Hand, run
from midlanes.rows import formed

from helpers import Reckoner, fields

GREATEST = 10 ** 60 - 1
WORDS = ("put", "copy", "plus", "less", "times", "take", "tell", "jump", "zero", "below", "call", "back")


def random_row(rng, boxes, count, takes):
    box = lambda: rng.randrange(boxes)
    word = rng.choice(WORDS + ("call", "zero", "below", "less"))
    if word == "call":
        f = rng.randrange(len(takes))
        return (word, box(), f, tuple(box() for k in range(takes[f])))
    if word == "put":
        return (word, box(), rng.choice([0, 1, -1, 3, rng.randint(-GREATEST, GREATEST)]))
    if word == "times":
        return (word, box(), box(), rng.choice([0, 1, -1, rng.randint(-99, 99)]))
    if word == "jump":
        return (word, rng.randrange(count))
    if word in ("zero", "below"):
        return (word, box(), rng.randrange(count))
    return (word, *[box() for k in range({"copy": 2, "plus": 3, "less": 3}.get(word, 1))])


def random_program(rng):
    boxes = [rng.randint(1, 8) for k in range(rng.randint(1, 6))]
    takes = [0] + [rng.randint(0, min(4, many)) for many in boxes[1:]]
    program = []
    for f, many in enumerate(boxes):
        count = rng.randint(1, 12)
        rows = [random_row(rng, many, count, takes) for at in range(count - 1)]
        last = rng.choice([("back", rng.randrange(many)), ("jump", rng.randrange(count))])
        program.append((takes[f], many, rows + [last]))
    return program


class HandCase(unittest.TestCase):
    def assert_hand(self, hand, frames, news=(), gone=0, left=(), end=None):
        self.assertEqual(hand.frames, frames)
        self.assertEqual(hand.news, list(news))
        self.assertEqual(hand.gone, gone)
        self.assertEqual(hand.left, list(left))
        self.assertEqual(hand.end, end)
        self.assertTrue(formed(hand.program))
        self.assert_kinds(hand)

    def assert_kinds(self, hand):
        self.assertEqual([type(part) for part in (hand.frames, hand.news, hand.left, hand.gone)], [list] * 3 + [int])
        for frame in hand.frames:
            self.assertIs(type(frame), list)
            self.assertEqual([type(part) for part in frame], [int, int, list])
            self.assertEqual({type(n) for n in frame[2]}, {int})
        lists = [hand.frames, hand.news, hand.left] + hand.frames + [frame[2] for frame in hand.frames]
        self.assertEqual(len({id(one) for one in lists}), len(lists))
        self.assert_end(hand.end)

    def assert_end(self, end):
        if end is not None:
            self.assertIs(type(end), tuple)
            self.assertEqual([type(part) for part in end], [str] + [int] * (1 if end[0] == "back" else 2))

    def go(self, hand):
        self.assertIsNone(hand.go())

    def assert_run(self, program, inputs, most, end, news, gone):
        self.assertTrue(formed(program))
        before = copy.deepcopy((program, inputs))
        told = run(program, inputs, most)
        self.assertEqual(told, (end, list(news), gone))
        self.assertEqual([type(part) for part in told], [tuple, list, int])
        self.assertIs(type(told), tuple)
        self.assert_end(told[0])
        self.assertEqual((program, inputs), before)

    def assert_stays(self, hand, end):
        """The run has come to its end: nothing is changed by going on."""
        self.assertEqual(hand.end, end)
        before = copy.deepcopy((hand.program, fields(hand)))
        for time in range(3):
            self.go(hand)
            self.assertEqual((hand.program, fields(hand)), before)
            self.assert_kinds(hand)


class Begins(HandCase):
    def test_one_frame_all_boxes_0(self):
        for boxes in range(1, 9):
            program = [(0, boxes, [("back", 0)]), (1, 3, [("back", 0)])]
            hand = Hand(program, [5, -6])
            self.assertEqual(hand.program, program)
            self.assert_hand(hand, [[0, 0, [0] * boxes]], left=[5, -6])
            self.assert_hand(Hand(program, []), [[0, 0, [0] * boxes]])

    def test_a_first_row_that_ends_the_run_is_not_looked_at_ahead(self):
        self.assert_hand(Hand([(0, 1, [("take", 0), ("back", 0)])], []), [[0, 0, [0]]])

    def test_many_and_great_numbers(self):
        numbers = [GREATEST, -GREATEST] * 200
        program = [(0, 1, [("take", 0), ("tell", 0), ("jump", 0)])]
        hand = Hand(program, numbers)
        self.assert_hand(hand, [[0, 0, [0]]], left=numbers)
        self.assert_run(program, numbers, 400, ("far", 0, 1), numbers[:133], 400)


class EachWord(HandCase):
    """Rows gone one by one in a def of four boxes, filled by puts."""

    def assert_gone(self, rows, numbers, at, expected, **more):
        """Behind the puts of the numbers, one go of the row at its place leads to the expected boxes."""
        filling = [("put", p, n) for p, n in enumerate(numbers)]
        program = [(0, 4, filling + rows)]
        before = copy.deepcopy(program)
        inputs = more.pop("inputs", [])
        hand = Hand(program, inputs)
        for p in range(4):
            self.assert_hand(hand, [[0, p, list(numbers[:p]) + [0] * (4 - p)]], gone=p, left=inputs)
            self.go(hand)
        self.go(hand)
        self.assert_hand(hand, [[0, at, list(expected)]], gone=5, **more)
        self.assertEqual(program, before)
        self.assertEqual(hand.program, before)

    def test_put(self):
        for n in (0, 1, -7, 100, GREATEST, -GREATEST):
            for p in range(4):
                expected = [3, 5, 7, 11]
                expected[p] = n
                self.assert_gone([("put", p, n), ("back", 0)], (3, 5, 7, 11), 5, expected)

    def test_copy(self):
        for p in range(4):
            for q in range(4):
                expected = [3, -5, 7, 11]
                expected[p] = expected[q]
                self.assert_gone([("copy", p, q), ("back", 0)], (3, -5, 7, 11), 5, expected)

    def test_plus_and_less(self):
        numbers = (3, -50, 700, GREATEST)
        for p in range(4):
            for q in range(4):
                for r in range(4):
                    expected = list(numbers)
                    expected[p] = numbers[q] + numbers[r]
                    self.assert_gone([("plus", p, q, r), ("back", 0)], numbers, 5, expected)
                    expected[p] = numbers[q] - numbers[r]
                    self.assert_gone([("less", p, q, r), ("back", 0)], numbers, 5, expected)

    def test_times(self):
        numbers = (3, -50, 0, -GREATEST)
        for p in range(4):
            for q in range(4):
                for n in (0, 1, -1, 2, 99, -99):
                    expected = list(numbers)
                    expected[p] = numbers[q] * n
                    self.assert_gone([("times", p, q, n), ("back", 0)], numbers, 5, expected)

    def test_take(self):
        for p in range(4):
            for n in (0, 8, -9, GREATEST):
                expected = [3, 5, 7, 11]
                expected[p] = n
                self.assert_gone([("take", p), ("back", 0)], (3, 5, 7, 11), 5, expected, inputs=[n, 1, 2], left=[1, 2])

    def test_tell(self):
        numbers = (3, 0, -7, GREATEST)
        for p in range(4):
            self.assert_gone([("tell", p), ("back", 0)], numbers, 5, numbers, news=[numbers[p]])

    def test_jump(self):
        for t in range(7):
            self.assert_gone([("jump", t), ("tell", 0), ("back", 0)], (3, 5, 7, 11), t, (3, 5, 7, 11))

    def test_zero(self):
        for t in range(7):
            for p, n, goes in ((0, 0, True), (1, 0, True), (3, 0, True), (0, 1, False), (2, -1, False),
                               (3, GREATEST, False), (3, -GREATEST, False)):
                numbers = [0, 0, 0, 0] if n else [6, -6, 6, -6]
                numbers[p] = n
                self.assert_gone([("zero", p, t), ("tell", 0), ("back", 0)], numbers, t if goes else 5, numbers)

    def test_below(self):
        for t in range(7):
            for p, n, goes in ((0, -1, True), (1, -1, True), (3, -GREATEST, True), (0, 0, False), (2, 1, False),
                               (3, GREATEST, False)):
                numbers = [-6, -6, -6, -6] if n >= 0 else [6, 6, 6, 6]
                numbers[p] = n
                self.assert_gone([("below", p, t), ("tell", 0), ("back", 0)], numbers, t if goes else 5, numbers)

    def test_rows_that_jump_to_themselves(self):
        for row in (("jump", 0), ("zero", 0, 0)):
            program = [(0, 2, [row, ("back", 0)])]
            hand = Hand(program, [4])
            for gone in range(30):
                self.assert_hand(hand, [[0, 0, [0, 0]]], gone=gone, left=[4])
                self.go(hand)
            self.assert_run(program, [4], 399, ("far", 0, 0), [], 399)
        self.assert_gone([("below", 1, 4), ("back", 0)], (3, -5, 7, 11), 4, (3, -5, 7, 11))

    def test_numbers_grow_as_they_need(self):
        program = [(0, 1, [("take", 0), ("times", 0, 0, -99), ("jump", 1)])]
        hand = Hand(program, [GREATEST])
        for time in range(1 + 2 * 150):
            self.go(hand)
        self.assert_hand(hand, [[0, 1, [GREATEST * 99 ** 150]]], gone=301)

    def test_numbers_are_taken_in_their_order(self):
        program = [(0, 2, [("take", 1), ("tell", 1), ("jump", 0)])]
        hand = Hand(program, [7, 7, -1, 0])
        for time in range(4):
            for row in range(3):
                self.go(hand)
        self.assert_hand(hand, [[0, 0, [0, 0]]], news=[7, 7, -1, 0], gone=12)


class Calls(HandCase):
    def test_a_call_and_its_back(self):
        program = [
            (0, 3, [("put", 0, 5), ("put", 1, 9), ("call", 2, 1, (1, 0)), ("tell", 2), ("back", 1)]),
            (2, 4, [("less", 3, 0, 1), ("back", 3)]),
        ]
        hand = Hand(program, [8])
        self.go(hand)
        self.go(hand)
        self.assert_hand(hand, [[0, 2, [5, 9, 0]]], gone=2, left=[8])
        self.go(hand)
        self.assert_hand(hand, [[0, 2, [5, 9, 0]], [1, 0, [9, 5, 0, 0]]], gone=3, left=[8])
        self.go(hand)
        self.assert_hand(hand, [[0, 2, [5, 9, 0]], [1, 1, [9, 5, 0, 4]]], gone=4, left=[8])
        self.go(hand)
        self.assert_hand(hand, [[0, 3, [5, 9, 4]]], gone=5, left=[8])
        self.go(hand)
        self.assert_hand(hand, [[0, 4, [5, 9, 4]]], [4], 6, [8])
        self.go(hand)
        self.assert_hand(hand, [[0, 4, [5, 9, 4]]], [4], 6, [8], ("back", 9))
        self.assert_stays(hand, ("back", 9))

    def test_the_same_box_twice(self):
        program = [(0, 2, [("put", 1, 6), ("call", 1, 1, (1, 0, 1, 1)), ("back", 1)]),
                   (4, 5, [("plus", 4, 0, 3), ("back", 4)])]
        hand = Hand(program, [])
        self.go(hand)
        self.go(hand)
        self.assert_hand(hand, [[0, 1, [0, 6]], [1, 0, [6, 0, 6, 6, 0]]], gone=2)
        self.go(hand)
        self.assert_hand(hand, [[0, 1, [0, 6]], [1, 1, [6, 0, 6, 6, 12]]], gone=3)
        self.go(hand)
        self.assert_hand(hand, [[0, 2, [0, 12]]], gone=4)

    def test_a_def_that_takes_all_its_boxes_or_none(self):
        program = [(0, 1, [("put", 0, 3), ("call", 0, 1, ()), ("call", 0, 2, (0,)), ("back", 0)]),
                   (0, 2, [("put", 1, 4), ("back", 0)]), (1, 1, [("back", 0)])]
        hand = Hand(program, [])
        seen = []
        while hand.end is None:
            seen.append(copy.deepcopy(hand.frames))
            self.go(hand)
        self.assertEqual(seen, [
            [[0, 0, [0]]], [[0, 1, [3]]], [[0, 1, [3]], [1, 0, [0, 0]]], [[0, 1, [3]], [1, 1, [0, 4]]], [[0, 2, [0]]],
            [[0, 2, [0]], [2, 0, [0]]], [[0, 3, [0]]]])
        self.assert_hand(hand, [[0, 3, [0]]], gone=6, end=("back", 0))

    def test_boxes_of_a_frame_that_waits_are_not_touched(self):
        program = [(0, 2, [("put", 0, 1), ("call", 1, 1, (0,)), ("jump", 1)]),
                   (1, 2, [("times", 0, 0, 9), ("copy", 1, 0), ("put", 0, 77), ("back", 1)])]
        hand = Hand(program, [])
        for time in range(5):
            self.go(hand)
            if len(hand.frames) == 2:
                self.assertEqual(hand.frames[0], [0, 1, [1, 0]])
        self.assert_hand(hand, [[0, 1, [1, 0]], [1, 3, [77, 9]]], gone=5)
        self.go(hand)
        self.assert_hand(hand, [[0, 2, [1, 9]]], gone=6)

    def test_several_frames_deep(self):
        # Each frame takes a number, calls itself with it, and gives back ten times what it got and its own number.
        program = [
            (0, 1, [("call", 0, 1, ()), ("tell", 0), ("back", 0)]),
            (0, 2, [("take", 0), ("zero", 0, 5), ("call", 1, 1, ()), ("times", 1, 1, 10), ("plus", 0, 0, 1),
                    ("back", 0)]),
        ]
        hand = Hand(program, [3, 1, 4, 0, 9])
        for time in range(1 + 3 * 3 + 2):
            self.go(hand)
        waiting = [[0, 0, [0]], [1, 2, [3, 0]], [1, 2, [1, 0]], [1, 2, [4, 0]]]
        self.assert_hand(hand, waiting + [[1, 5, [0, 0]]], gone=12, left=[9])
        self.go(hand)
        self.assert_hand(hand, waiting[:3] + [[1, 3, [4, 0]]], gone=13, left=[9])
        for time in range(3):
            self.go(hand)
        self.assert_hand(hand, waiting[:2] + [[1, 3, [1, 4]]], gone=16, left=[9])
        for time in range(3):
            self.go(hand)
        self.assert_hand(hand, waiting[:1] + [[1, 3, [3, 41]]], gone=19, left=[9])
        for time in range(3):
            self.go(hand)
        self.assert_hand(hand, [[0, 1, [413]]], gone=22, left=[9])
        self.assert_run(program, [3, 1, 4, 0, 9], 400, ("back", 413), [413], 23)

    def test_def_0_may_be_called(self):
        program = [(0, 2, [("take", 0), ("zero", 0, 3), ("call", 1, 0, ()), ("back", 1)])]
        hand = Hand(program, [5, 6, 0])
        for time in range(8):
            self.go(hand)
        self.assert_hand(hand, [[0, 2, [5, 0]], [0, 2, [6, 0]], [0, 3, [0, 0]]], gone=8)
        for time in range(2):
            self.go(hand)
        self.assert_hand(hand, [[0, 3, [5, 0]]], gone=10)
        self.go(hand)
        self.assert_stays(hand, ("back", 0))


class Ends(HandCase):
    def test_back(self):
        for n in (0, 4, -4, GREATEST, -GREATEST):
            program = [(0, 2, [("tell", 0), ("put", 1, n), ("back", 1)])]
            self.assert_run(program, [1], 400, ("back", n), [0], 2)
            self.assert_run(program, [1], 3, ("back", n), [0], 2)
            hand = Hand(program, [1])
            for time in range(3):
                self.assertIsNone(hand.end)
                self.go(hand)
            self.assert_hand(hand, [[0, 2, [0, n]]], [0], 2, [1], ("back", n))
            self.assert_stays(hand, ("back", n))

    def test_back_at_the_first_row(self):
        program = [(0, 1, [("back", 0)])]
        hand = Hand(program, [])
        self.go(hand)
        self.assert_hand(hand, [[0, 0, [0]]], end=("back", 0))
        self.assert_stays(hand, ("back", 0))
        self.assert_run(program, [], 1, ("back", 0), [], 0)

    def test_dry(self):
        program = [(0, 2, [("put", 1, 3), ("take", 1), ("tell", 1), ("jump", 1)])]
        for inputs in ([], [6], [6, 0], [6, 0, -7, 8]):
            gone = 1 + 3 * len(inputs)
            last = (inputs or [3])[-1]
            self.assert_run(program, inputs, 400, ("dry", 0, 1), inputs, gone)
            self.assert_run(program, inputs, gone + 1, ("dry", 0, 1), inputs, gone)
            hand = Hand(program, inputs)
            for time in range(gone):
                self.go(hand)
                self.assertIsNone(hand.end)
            self.go(hand)
            self.assert_hand(hand, [[0, 1, [0, last]]], inputs, gone, [], ("dry", 0, 1))
            self.assert_stays(hand, ("dry", 0, 1))

    def test_dry_in_a_called_def(self):
        program = [(0, 1, [("put", 0, 2), ("call", 0, 2, (0,)), ("back", 0)]), (0, 1, [("back", 0)]),
                   (1, 2, [("jump", 1), ("take", 1), ("jump", 1)])]
        self.assert_run(program, [4, 5], 400, ("dry", 2, 1), [], 7)
        hand = Hand(program, [4, 5])
        for time in range(9):
            self.go(hand)
        self.assert_hand(hand, [[0, 1, [2]], [2, 1, [2, 5]]], gone=7, end=("dry", 2, 1))
        self.assert_stays(hand, ("dry", 2, 1))

    def test_deep(self):
        program = [(0, 2, [("take", 0), ("call", 1, 1, (0, 0)), ("back", 1)]),
                   (2, 3, [("tell", 0), ("put", 2, 1), ("less", 0, 0, 2), ("call", 1, 1, (0, 1)), ("back", 1)])]
        hand = Hand(program, [100, 1])
        gone = 2 + 18 * 4 + 3
        for time in range(gone):
            self.go(hand)
            self.assertIsNone(hand.end)
        frames = [[0, 1, [100, 0]]] + [[1, 3, [100 - k, 100, 1]] for k in range(1, 20)]
        self.assertEqual(len(frames), 20)
        news = list(range(100, 81, -1))
        self.assert_hand(hand, frames, news, gone, [1])
        self.go(hand)
        self.assert_hand(hand, frames, news, gone, [1], ("deep", 1, 3))
        self.assert_stays(hand, ("deep", 1, 3))
        self.assert_run(program, [100], 400, ("deep", 1, 3), news, gone)
        self.assert_run(program, [100], gone + 1, ("deep", 1, 3), news, gone)
        self.assert_run(program, [100], gone, ("far", 1, 3), news, gone)

    def test_twenty_frames_are_not_too_deep_for_other_rows(self):
        # Counts down from the number taken, a frame each, and gives back how many frames it went down.
        program = [(0, 2, [("take", 0), ("call", 1, 1, (0,)), ("back", 1)]),
                   (1, 3, [("zero", 0, 6), ("put", 1, 1), ("less", 0, 0, 1), ("call", 2, 1, (0,)), ("plus", 2, 2, 1),
                           ("back", 2), ("tell", 0), ("back", 2)])]
        self.assert_run(program, [18], 400, ("back", 18), [0], 2 + 18 * 4 + 3 + 18 * 2)
        self.assert_run(program, [19], 400, ("deep", 1, 3), [], 2 + 18 * 4 + 3)
        self.assert_run(program, [0], 400, ("back", 0), [0], 5)
        self.assert_run(program, [1], 400, ("back", 1), [0], 5 + 6)

    def test_far(self):
        program = [(0, 2, [("put", 1, 3), ("tell", 1), ("jump", 1)])]
        for most in (1, 2, 3, 4, 5, 399, 400):
            self.assert_run(program, [2], most, ("far", 0, 2 if most % 2 == 0 else 1), [3] * (most // 2), most)

    def test_far_is_of_the_own_frame(self):
        program = [(0, 1, [("jump", 1), ("call", 0, 1, ()), ("back", 0)]), (0, 1, [("tell", 0), ("back", 0)])]
        ends = [("far", 0, 0), ("far", 0, 1), ("far", 1, 0), ("far", 1, 1), ("far", 0, 2), ("back", 0), ("back", 0)]
        for most, end in enumerate(ends):
            self.assert_run(program, [], most, end, [0] if most > 2 else [], min(most, 4))

    def test_no_rows_allowed(self):
        for rows in ([("put", 0, 1), ("tell", 0), ("back", 0)], [("back", 0)], [("take", 0), ("back", 0)],
                     [("jump", 0)]):
            self.assert_run([(0, 1, rows)], [], 0, ("far", 0, 0), [], 0)

    def test_far_goes_ahead_of_the_others(self):
        program = [(0, 1, [("put", 0, 8), ("tell", 0), ("back", 0)])]
        self.assert_run(program, [], 2, ("far", 0, 2), [8], 2)
        self.assert_run(program, [], 3, ("back", 8), [8], 2)
        program = [(0, 1, [("take", 0), ("take", 0), ("back", 0)])]
        self.assert_run(program, [5], 1, ("far", 0, 1), [], 1)
        self.assert_run(program, [5], 2, ("dry", 0, 1), [], 1)
        self.assert_run(program, [5, 6], 2, ("far", 0, 2), [], 2)
        self.assert_run(program, [5, 6], 3, ("back", 6), [], 2)
        program = [(0, 1, [("call", 0, 0, ()), ("back", 0)])]
        self.assert_run(program, [], 18, ("far", 0, 0), [], 18)
        self.assert_run(program, [], 19, ("far", 0, 0), [], 19)
        self.assert_run(program, [], 20, ("deep", 0, 0), [], 19)

    def test_a_hands_end_is_never_far(self):
        hand = Hand([(0, 1, [("jump", 0)])], [])
        for time in range(400):
            self.go(hand)
        self.assert_hand(hand, [[0, 0, [0]]], gone=400)

    def test_no_number_is_taken_that_is_not_asked_for(self):
        program = [(0, 1, [("take", 0), ("tell", 0), ("back", 0)])]
        hand = Hand(program, [4, 5, 6])
        for time in range(4):
            self.go(hand)
        self.assert_hand(hand, [[0, 2, [4]]], [4], 2, [5, 6], ("back", 4))


class Apart(HandCase):
    PROGRAM = [(0, 2, [("take", 0), ("call", 1, 1, (0,)), ("tell", 1), ("jump", 0)]),
               (1, 2, [("times", 1, 0, 2), ("back", 1)])]

    def test_two_hands_of_one_program(self):
        inputs = [3, 4]
        one = Hand(self.PROGRAM, inputs)
        other = Hand(self.PROGRAM, inputs)
        for time in range(3):
            self.go(one)
        self.assert_hand(other, [[0, 0, [0, 0]]], left=[3, 4])
        self.assert_hand(one, [[0, 1, [3, 0]], [1, 1, [3, 6]]], gone=3, left=[4])
        self.go(other)
        self.assert_hand(other, [[0, 1, [3, 0]]], gone=1, left=[4])
        for time in range(20):
            self.go(one)
        self.assert_hand(other, [[0, 1, [3, 0]]], gone=1, left=[4])
        self.assert_hand(one, [[0, 0, [4, 8]]], [6, 8], 12, [], ("dry", 0, 0))
        self.assertEqual(inputs, [3, 4])

    def test_hands_of_two_programs(self):
        one = Hand(self.PROGRAM, [3])
        other = Hand([(0, 1, [("put", 0, 9), ("tell", 0), ("back", 0)])], [5])
        for time in range(10):
            self.go(one)
            self.go(other)
        self.assert_hand(one, [[0, 0, [3, 6]]], [6], 6, [], ("dry", 0, 0))
        self.assert_hand(other, [[0, 2, [9]]], [9], 2, [5], ("back", 9))

    def test_what_is_handed_in_stays_as_it_was(self):
        program = copy.deepcopy(self.PROGRAM)
        inputs = [3, 4, 5]
        hand = Hand(program, inputs)
        for time in range(40):
            self.go(hand)
            self.assertEqual(program, self.PROGRAM)
            self.assertEqual(inputs, [3, 4, 5])
            self.assertEqual(hand.program, self.PROGRAM)
        self.assert_run(program, inputs, 400, ("dry", 0, 0), [6, 8, 10], 18)

    def test_the_numbers_may_be_changed_afterwards(self):
        inputs = [3, 4]
        hand = Hand(self.PROGRAM, inputs)
        inputs.append(5)
        inputs[0] = 99
        self.assert_hand(hand, [[0, 0, [0, 0]]], left=[3, 4])
        self.go(hand)
        inputs.clear()
        for time in range(20):
            self.go(hand)
        self.assert_hand(hand, [[0, 0, [4, 8]]], [6, 8], 12, [], ("dry", 0, 0))

    def test_a_hands_lists_are_its_own(self):
        inputs = [3, 4]
        one = Hand(self.PROGRAM, inputs)
        other = Hand(self.PROGRAM, inputs)
        for time in range(6):
            self.go(one)
            self.go(other)
        before = copy.deepcopy(fields(other))
        one.news.append(1)
        one.left.append(2)
        one.frames[0][2][0] = 5
        one.frames[0][1] = 2
        one.frames.append([1, 0, [8, 8]])
        self.assertEqual(fields(other), before)
        self.assert_hand(Hand(self.PROGRAM, inputs), [[0, 0, [0, 0]]], left=[3, 4])
        self.assertEqual(inputs, [3, 4])

    def test_runs_tell_new_lists(self):
        first = run(self.PROGRAM, [3, 4], 400)
        first[1].append(1)
        self.assert_run(self.PROGRAM, [3, 4], 400, ("dry", 0, 0), [6, 8], 12)


class Any(HandCase):
    def test_all_fields_behind_each_row(self):
        rng = random.Random(11)
        words = {}
        ends = {}
        for time in range(400):
            program = random_program(rng)
            inputs = [rng.choice([0, 1, -1, rng.randint(-GREATEST, GREATEST)]) for k in range(rng.randint(0, 12))]
            before = copy.deepcopy((program, inputs))
            hand = Hand(program, inputs)
            reckoner = Reckoner(program, inputs)
            for row in range(60):
                self.assertEqual(fields(hand), fields(reckoner))
                words[reckoner.row()[0]] = words.get(reckoner.row()[0], 0) + 1
                self.go(hand)
                reckoner.go()
            self.assert_kinds(hand)
            self.assertEqual(fields(hand), fields(reckoner))
            self.assertEqual((program, inputs), before)
            ends[str(hand.end)[:6]] = ends.get(str(hand.end)[:6], 0) + 1
        self.assertEqual(set(words), set(WORDS))
        self.assertEqual(set(ends), {"None", "('back", "('dry'", "('deep"})
        self.assertGreater(min([*words.values(), *ends.values()]), 5)

    def test_runs_are_as_many_gos(self):
        rng = random.Random(12)
        for time in range(300):
            program = random_program(rng)
            inputs = [rng.randint(-3, 3) for k in range(rng.randint(0, 12))]
            hand = Hand(program, inputs)
            for most in range(40):
                f, at = hand.frames[-1][:2]
                ends = hand.end is not None and hand.gone < most
                self.assert_run(program, inputs, most, hand.end if ends else ("far", f, at), hand.news, hand.gone)
                self.go(hand)


if __name__ == "__main__":
    unittest.main()
