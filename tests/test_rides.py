"""Points 2, 11, 12 and 22 to 24: runs led over into lanes, and away from them."""

import copy
import unittest

from midlanes.hand import Hand, run
from midlanes.judge import fault
from midlanes.rides import frames_of, ridden, ride, words_in
from midlanes.rows import formed

from helpers import A, B, BASE, C, LEAVE, LOOP, MAIN, lists_in, num, plain_states, word, words

GREATEST = 10 ** 300 - 1

# Def 1 calls itself until its box is 0: there are as many frames as the number taken, and two more.
DEEP = [
    (0, 1, [("take", 0), ("call", 0, 1, (0,)), ("back", 0)]),
    (1, 2, [("zero", 0, 4), ("put", 1, 1), ("less", 0, 0, 1), ("call", 0, 1, (0,)), ("back", 0)]),
]


def base_with(n):
    """The lane with each of the deeds for a program that puts n in its first row."""
    lane = []
    for many, paper, deed in BASE:
        f, at, forms = paper[0]
        if forms[1] == num(5):
            paper = [(f, at, (forms[0], num(n), forms[2]))] + paper[1:]
        if deed[0] == "go" and at == 0:
            deed = ("go", (2, ((n, ((1, 0),)), C), 1))
        lane.append((many, paper, deed))
    return lane


class RideCase(unittest.TestCase):
    def assert_ride(self, program, lane, inputs, most, when, log):
        """Rides, and holds what is told against the plain run and the log."""
        self.assertTrue(formed(program))
        self.assertIsNone(fault(program, lane))
        before = copy.deepcopy((program, lane, inputs, when))
        told = ride(program, lane, inputs, most, when)
        self.assertEqual(told, run(program, inputs, most) + (log,))
        self.assertEqual([type(part) for part in told], [tuple, list, int, list])
        self.assertLessEqual({(type(one), *[type(part) for part in one]) for one in told[3]}, {(tuple, str, int, int)})
        hand, hands_log = ridden(program, lane, inputs, most, when)
        self.assertEqual(hands_log, log)
        self.assert_hand_of_plain_run(hand, program, inputs, most)
        self.assertEqual((program, lane, inputs, when), before)
        return hand

    def assert_hand_of_plain_run(self, hand, program, inputs, most):
        self.assertIs(type(hand), Hand)
        plain = Hand(program, inputs)
        while plain.end is None and plain.gone < most:
            plain.go()
        for name in ("program", "frames", "news", "gone", "left", "end"):
            self.assertEqual(getattr(hand, name), getattr(plain, name), name)
        lists = lists_in([hand.frames, hand.news, hand.left])
        self.assertEqual(len({id(one) for one in lists}), len(lists))


class WordsIn(unittest.TestCase):
    def test_behind_any_number_of_rows(self):
        hand = Hand(DEEP, [3])
        seen = []
        for row in range(40):
            told = words_in(hand)
            self.assertIs(type(told), list)
            self.assertEqual(told, hand.frames[-1][2])
            seen.append(told)
            hand.go()
        self.assertEqual(seen[:6], [[0], [3], [3, 0], [3, 0], [3, 1], [2, 1]])
        self.assertEqual(hand.end, ("back", 0))

    def test_a_new_list(self):
        hand = Hand(DEEP, [3])
        for row in range(9):
            hand.go()
        before = copy.deepcopy(hand.frames)
        told = words_in(hand)
        told[0] = 77
        told.append(5)
        self.assertEqual(hand.frames, before)
        self.assertEqual(words_in(hand), before[-1][2])
        self.assertIsNot(words_in(hand), words_in(hand))

    def test_great_numbers(self):
        hand = Hand([(0, 2, [("take", 0), ("times", 1, 0, -99), ("back", 0)])], [10 ** 60 - 1])
        hand.go()
        hand.go()
        self.assertEqual(words_in(hand), [10 ** 60 - 1, -99 * (10 ** 60 - 1)])


class FramesOf(unittest.TestCase):
    def assert_frames(self, paper, numbers, expected):
        before = copy.deepcopy((paper, numbers))
        told = frames_of(paper, numbers)
        self.assertEqual(told, expected)
        self.assertIs(type(told), list)
        for frame in told:
            self.assertEqual((type(frame), *[type(part) for part in frame]), (list, int, int, list))
        lists = lists_in(told)
        self.assertEqual(len({id(one) for one in lists}), len(lists))
        self.assertEqual((paper, numbers), before)

    def test_one_to_four_sign_frames(self):
        form = (3, ((2, 0), (-1, 1)))
        frames = [(0, 5, (A, num(7), form)), (1, 3, (B,)), (2, 0, (num(0),) * 8), (1, 4, (form,))]
        expected = [[0, 5, [10, 7, 27]], [1, 3, [-4]], [2, 0, [0] * 8], [1, 4, [27]]]
        for many in range(1, 5):
            self.assert_frames(frames[:many], [10, -4], expected[:many])
            self.assert_frames(frames[-many:], [10, -4], expected[-many:])

    def test_like_sign_frames(self):
        frame = (1, 3, (A, B))
        for many in range(1, 5):
            self.assert_frames([frame] * many, [6, 7], [[1, 3, [6, 7]]] * many)
            told = frames_of([frame] * many, [6, 7])
            told[0][2][0] = 100
            told[0][1] = 9
            self.assertEqual(told[1:], [[1, 3, [6, 7]]] * (many - 1))

    def test_no_words_and_forty(self):
        self.assert_frames([(0, 0, (num(3), num(-5)))], [], [[0, 0, [3, -5]]])
        numbers = [w * w for w in range(40)]
        self.assert_frames([(0, 0, words(40)[32:])], numbers, [[0, 0, numbers[32:]]])
        form = (1, tuple((2, w) for w in range(40)))
        self.assert_frames([(0, 0, (form,))], numbers, [[0, 0, [1 + 2 * sum(numbers)]]])

    def test_great_numbers(self):
        paper = [(0, 0, ((GREATEST, ((GREATEST, 0), (-GREATEST, 1))), num(-GREATEST)))]
        self.assert_frames(paper, [GREATEST, -GREATEST],
                           [[0, 0, [GREATEST + 2 * GREATEST * GREATEST, -GREATEST]]])

    def test_a_new_list_each_time(self):
        paper = [(0, 0, (A, B))]
        self.assertIsNot(frames_of(paper, [1, 2]), frames_of(paper, [1, 2]))
        first = frames_of(paper, [1, 2])
        first[0][2].append(3)
        self.assertEqual(frames_of(paper, [1, 2]), [[0, 0, [1, 2]]])


class EachDeed(RideCase):
    def test_all_six(self):
        self.assert_ride(MAIN, BASE, [3, 0], 100, [True], [("over", 0, 0), ("leave", 4, 15)])
        # The hold falls behind a go, a take, a tell and a test.
        self.assert_ride(MAIN, BASE, [4, 0], 100, [True], [("over", 0, 0), ("fall", 5, 5)])
        # The other way of the second test.
        self.assert_ride(MAIN, BASE, [3, 3, 3, 0], 100, [True], [("over", 0, 0), ("leave", 4, 35)])
        program = copy.deepcopy(MAIN)
        program[0][2][0] = ("put", 1, 1)
        lane = base_with(1)
        self.assert_ride(program, lane, [3, 0], 100, [True], [("over", 0, 0), ("leave", 4, 16)])

    def test_never_led_over(self):
        for inputs in ([3, 0], [4, 0], [], [1, 2, 3]):
            for when in ([], [False], [False] * 400):
                self.assert_ride(MAIN, BASE, inputs, 100, when, [])

    def test_called_away_at_each_stand(self):
        stands = [(0, 0), (1, 2), (2, 3), (3, 4), (5, 5), (7, 5), (6, 7), (0, 10), (1, 12), (2, 13), (3, 14), (4, 15)]
        for many, (k, gone) in enumerate(stands):
            when = [True] + [False] * many + [True]
            log = [("over", 0, 0), ("away", k, gone)]
            # Where just so many rows are allowed the ride ends there, with the plain run's frames and numbers left.
            hand = self.assert_ride(MAIN, BASE, [3, 0], max(gone, 1), when, log)
            self.assertIsNone(hand.end)
            # With rows left the run goes on plainly, and is not led over at the door's place again.
            self.assert_ride(MAIN, BASE, [3, 0], 100, when, log)

    def test_a_chance_goes_ahead_of_leave_and_fall(self):
        self.assert_ride(MAIN, BASE, [4, 0], 100, [True] + [False] * 4 + [True], [("over", 0, 0), ("away", 5, 5)])
        self.assert_ride(MAIN, BASE, [0], 100, [True] + [False] * 4 + [True], [("over", 0, 0), ("away", 4, 5)])

    def test_a_chance_goes_ahead_of_short(self):
        self.assert_ride(MAIN, BASE, [], 100, [True, False, True], [("over", 0, 0), ("away", 1, 2)])
        self.assert_ride(MAIN, BASE, [], 100, [True, False, False, True], [("over", 0, 0), ("short", 1, 2)])
        self.assert_ride(MAIN, BASE, [3], 1, [True, True], [("over", 0, 0), ("away", 0, 0)])

    def test_led_away_to_a_doors_place_and_over_again(self):
        log = [("over", 0, 0), ("away", 0, 0)] * 3
        self.assert_ride(MAIN, BASE, [3, 0], 100, [True] * 6, log)
        self.assert_ride(MAIN, BASE, [3, 0], 100, [True] * 6 + [False], log)
        self.assert_ride(MAIN, BASE, [3, 0], 100, [True] * 7, log + [("over", 0, 0), ("leave", 4, 15)])
        # Led away at the door's stand behind a round, and over again before the plain row.
        when = [True] + [False] * 7 + [True, True]
        self.assert_ride(MAIN, BASE, [3, 0], 100, when,
                         [("over", 0, 0), ("away", 0, 10), ("over", 0, 10), ("leave", 4, 15)])
        self.assert_ride(MAIN, BASE, [3, 0], 10, when, [("over", 0, 0), ("away", 0, 10)])

    def test_lists_of_truths(self):
        for length in (0, 1, 2, 3, 50, 400):
            whens = [[True] * length, [False] * length]
            logs = [[("over", 0, 0), ("away", 0, 0)] * (length // 2), []]
            if length % 2:
                logs[0] = logs[0] + [("over", 0, 0), ("leave", 4, 15)]
            for when, log in zip(whens, logs):
                self.assert_ride(MAIN, BASE, [3, 0], 100, when, log)


class ChancesBeforeRows(RideCase):
    DOOR = [(2, [(1, 0, (A, B))], LEAVE)]
    FOUR = [
        (2, [(1, 0, (A, B))], ("test", (0, (A, B), 1), (3, ((-1, ((1, 0),)),), 2))),
        (2, [(1, 4, (A, B))], LEAVE),
        (1, [(1, 3, (A, num(1))), (1, 0, (A, num(0)))], ("test", (1, (A, num(1)), 1), (3, (A, (-1, ((1, 0),))), 3))),
        (2, [(1, 3, (A, num(1))), (1, 3, (B, num(1))), (1, 0, (B, num(0)))],
         ("test", (1, (A, B), 5), (3, (A, B, (-1, ((1, 1),))), 4))),
        (3, [(1, 3, (A, num(1))), (1, 3, (B, num(1))), (1, 3, (C, num(1))), (1, 0, (C, num(0)))], LEAVE),
        (2, [(1, 3, (A, num(1))), (1, 4, (B, num(1)))], ("go", (1, (B, num(1)), 1))),
    ]

    def chances(self, lane, inputs, most, when):
        """Where the first True leads over: a tuple of the rows gone, or None."""
        told = ride(DEEP, lane, inputs, most, when)[3]
        return told[0][2] if told else None

    def test_seventeen_and_eighteen_frames(self):
        # There are chances with two frames up to seventeen, behind 2, 6, 10 .. 62 rows, and none with more.
        for n in (17, 18, 19, 25):
            for many in range(19):
                log = [("over", 0, 2 + 4 * many), ("leave", 0, 2 + 4 * many)] if many < 16 else []
                self.assert_ride(DEEP, self.DOOR, [n], 300, [False] * many + [True], log)
        states, end = plain_states(DEEP, [25], 300)
        self.assertEqual([len(states[gone][0]) for gone in (2, 6, 62, 66)], [2, 3, 17, 18])
        self.assertEqual(end, ("deep", 1, 3))

    def test_frames_on_the_way_back(self):
        lane = [(2, [(1, 4, (A, B))], LEAVE)]
        # The youngest of twenty frames goes back first; the next three rows are without a chance, too.
        states, end = plain_states(DEEP, [18], 300)
        self.assertEqual(max(len(state[0]) for state in states), 20)
        least = min(gone for gone, state in enumerate(states) if len(state[0]) == 17 and state[0][-1][1] == 4)
        self.assertEqual(self.chances(lane, [18], 300, [True]), least)
        self.assert_ride(DEEP, lane, [18], 300, [True], [("over", 0, least), ("leave", 0, least)])

    def test_led_away_to_twenty_frames(self):
        self.assertIsNone(fault(DEEP, self.FOUR))
        for n, many in ((25, 15), (25, 14), (18, 15), (3, 0), (9, 4)):
            gone = 2 + 4 * many
            for chances, k in enumerate((0, 2, 3, 4)):
                when = [False] * many + [True] + [False] * chances + [True]
                log = [("over", 0, gone), ("away", k, gone + 4 * chances)]
                hand = self.assert_ride(DEEP, self.FOUR, [n], max(gone + 1, log[1][2]), when, log)
                self.assertEqual(len(hand.frames), many + 2 + chances)
                self.assert_ride(DEEP, self.FOUR, [n], 300, when, log)
        when = [False] * 15 + [True]
        hand = self.assert_ride(DEEP, self.FOUR, [25], 74, when, [("over", 0, 62), ("leave", 4, 74)])
        self.assertEqual(len(hand.frames), 20)
        self.assert_ride(DEEP, self.FOUR, [25], 300, when, [("over", 0, 62), ("leave", 4, 74)])

    def test_the_frames_beneath_wait(self):
        for n in range(0, 25):
            for many in range(16):
                log = ride(DEEP, self.FOUR, [n], 300, [False] * many + [True])[3]
                self.assert_ride(DEEP, self.FOUR, [n], 300, [False] * many + [True], log)

    def test_where_all_rows_allowed_are_gone(self):
        for n in (0, 3):
            self.assert_ride(DEEP, self.DOOR, [n], 2, [True] * 9, [])
            self.assert_ride(DEEP, self.DOOR, [n], 3, [True, True, False], [("over", 0, 2), ("away", 0, 2)])
        self.assert_ride(LOOP, [(1, [(0, 0, (A,))], LEAVE)], [], 0, [True] * 9, [])
        self.assert_ride(LOOP, [(1, [(0, 0, (A,))], LEAVE)], [], 1, [True, False],
                         [("over", 0, 0), ("leave", 0, 0)])
        # Led away at a door's place where all rows are gone: the chance does not come again.
        lane = [(1, [(0, 0, (A,))], ("go", (1, (A,), 0)))]
        self.assert_ride(LOOP, lane, [], 5, [True] + [False] * 5 + [True] * 9, [("over", 0, 0), ("away", 0, 5)])
        self.assert_ride(LOOP, lane, [], 5, [True] + [False] * 4 + [True, False, True, True],
                         [("over", 0, 0), ("away", 0, 4)])

    def test_two_doors_of_one_place(self):
        leave = (1, [(0, 0, (A,))], LEAVE)
        go = (1, [(0, 0, (A,))], ("go", (1, (A,), 1)))
        program = [(0, 1, [("jump", 0)])]
        first = (1, [(0, 0, (A,))], ("go", (1, (A,), 0)))
        for lane, k, name in (([leave, go], 0, "leave"), ([first, leave], 0, "short"),
                              ([(0, [(0, 0, (num(0),))], LEAVE), go, leave], 1, "short")):
            gone = 9 if name == "short" else 0
            self.assert_ride(program, lane, [], 9, [True], [("over", k, 0), (name, k, gone)])

    def test_what_is_no_door(self):
        two = [(0, 2, [("jump", 0)])]
        for many, forms in ((2, (B, A)), (3, (A, B)), (2, (A, A)), (1, (A, num(0))), (2, (A, (1, ((1, 1),))))):
            self.assert_ride(two, [(many, [(0, 0, forms)], LEAVE)], [], 9, [True] * 9, [])
        self.assert_ride(two, [(2, [(0, 0, (A, B))], LEAVE)], [], 9, [True],
                         [("over", 0, 0), ("leave", 0, 0)])
        nest = [(0, 1, [("call", 0, 0, ()), ("back", 0)])]
        self.assert_ride(nest, [(1, [(0, 0, (A,)), (0, 0, (A,))], LEAVE)], [], 50, [True] * 9, [])

    def test_where_the_plain_row_would_end_the_run(self):
        for rows in ([("back", 0)], [("take", 0), ("back", 0)]):
            lane = [(1, [(0, 0, (A,))], LEAVE)]
            self.assert_ride([(0, 1, rows)], lane, [], 9, [True], [("over", 0, 0), ("leave", 0, 0)])
            self.assert_ride([(0, 1, rows)], lane, [], 9, [True, True, True], [("over", 0, 0), ("away", 0, 0),
                                                                              ("over", 0, 0), ("leave", 0, 0)])
            self.assert_ride([(0, 1, rows)], lane, [], 9, [], [])
        # At a call with twenty frames there is no chance, and at one with seventeen there is.
        nest = [(0, 1, [("call", 0, 0, ()), ("back", 0)])]
        lane = [(1, [(0, 0, (A,))], LEAVE)]
        self.assert_ride(nest, lane, [], 50, [False] * 16 + [True], [("over", 0, 16), ("leave", 0, 16)])
        self.assert_ride(nest, lane, [], 50, [False] * 17 + [True], [])


class Rows(RideCase):
    LONG = [(0, 2, [("plus", 0, 0, 1), ("plus", 1, 1, 0), ("jump", 0)])]

    def moves(self, rows):
        """The forms behind so many rows of the round."""
        boxes = [(1, 0), (0, 1)]
        for row in range(rows):
            if row % 3 < 2:
                boxes[row % 3] = tuple(a + b for a, b in zip(*boxes))
        return tuple((0, tuple((a, w) for w, a in enumerate(box) if a)) for box in boxes)

    def test_edges_that_just_fit(self):
        for rows in (1, 2, 3, 4, 50, 199, 200):
            # The other stand is no door.
            lane = [(2, [(0, 0, (A, B))], ("go", (rows, self.moves(rows)[::-1], 1))),
                    (2, [(0, rows % 3, (B, A))], LEAVE)]
            for most in (rows, rows + 1, rows + 2):
                log = [("over", 0, 0), ("leave", 1, rows)]
                self.assert_ride(self.LONG, lane, [], most, [True], log)
            for most in range(1, rows):
                self.assert_ride(self.LONG, lane, [], most, [True], [("over", 0, 0), ("short", 0, 0)])
            # Behind some plain rows: the rows that are left count, not those allowed.
            self.assert_ride(self.LONG, lane, [], rows + 3, [False, True], [("over", 0, 3), ("leave", 1, rows + 3)])
            self.assert_ride(self.LONG, lane, [], rows + 2, [False, True],
                             [("over", 0, 3), ("short", 0, 3)] if rows > 1 else [])

    def test_a_round_until_rows_lack(self):
        for rows in (3, 6, 66, 198):
            lane = [(2, [(0, 0, (A, B))], ("go", (rows, self.moves(rows), 0)))]
            for most in (rows, 197, 198, 199, 398, 399, 400):
                gone = most // rows * rows
                self.assert_ride(self.LONG, lane, [], most, [True], [("over", 0, 0), ("short", 0, gone)])

    def own_row(self, row, deed, inputs, news):
        """A program and a lane whose stand 0 has the deed, at this row, its edges of two rows more."""
        program = [(0, 1, [row, ("jump", 2), ("jump", 3), ("back", 0)])]
        lane = [(1, [(0, 0, (A,))], deed), (1, [(0, 3, (A,))], LEAVE), (1, [(0, 2, (A,))], LEAVE)]
        for most in (3, 4):
            told = ride(program, lane, inputs, most, [True])
            self.assertEqual(told[1], news)
            self.assert_ride(program, lane, inputs, most, [True], [("over", 0, 0), ("leave", 1, 3)])
        return program, lane

    def test_the_stands_own_row_counts(self):
        cases = ((("tell", 0), ("tell", (2, (A,), 1)), [], [0]),
                 (("take", 0), ("take", (2, (B,), 1)), [8], []),
                 (("zero", 0, 1), ("test", (2, (A,), 1), (2, (A,), 1)), [], []),
                 (("below", 0, 1), ("test", (2, (A,), 1), (2, (A,), 1)), [], []))
        for row, deed, inputs, news in cases:
            program, lane = self.own_row(row, deed, inputs, news)
            for most in (1, 2):
                self.assert_ride(program, lane, inputs, most, [True], [("over", 0, 0), ("short", 0, 0)])

    def test_nothing_is_told_or_taken_where_it_is_short(self):
        inputs = [4]
        for row, deed in ((("tell", 0), ("tell", (2, (A,), 1))), (("take", 0), ("take", (2, (B,), 1)))):
            program = [(0, 1, [("jump", 1), row, ("jump", 3), ("jump", 4), ("back", 0)])]
            lane = [(1, [(0, 1, (A,))], deed), (1, [(0, 4, (A,))], LEAVE)]
            # Led over behind one row, with just as many rows left as were gone by the short edge's own row.
            hand, log = ridden(program, lane, inputs, 2, [True])
            self.assertEqual(log, [("over", 0, 1), ("short", 0, 1)])
            self.assert_ride(program, lane, inputs, 2, [True], log)
            self.assertEqual((hand.news, hand.left), ([0], [4]) if row[0] == "tell" else ([], []))
            # A stand whose own row is the next, and no row left: told and taken is nothing at all.
            lane = [(1, [(0, 0, (A,))], ("go", (1, (A,), 1))), (1, [(0, 1, (A,))], deed[:1] + ((0, deed[1][1], 2),)),
                    (1, [(0, 2, (A,))], LEAVE)]
            hand = self.assert_ride(program, lane, inputs, 1, [True], [("over", 0, 0), ("short", 1, 1)])
            self.assertEqual((hand.news, hand.left, hand.frames), ([], [4], [[0, 1, [0]]]))

    def test_only_the_edge_that_would_be_gone_counts(self):
        for word_of_row, number in (("zero", 0), ("zero", 5), ("zero", -5), ("below", -1), ("below", 0), ("below", 1)):
            program = [(0, 1, [("take", 0), (word_of_row, 0, 3), ("back", 0), ("jump", 4), ("back", 0)])]
            lane = [(1, [(0, 1, (A,))], ("test", (1, (A,), 1), (0, (A,), 2))), (1, [(0, 4, (A,))], LEAVE),
                    (1, [(0, 2, (A,))], LEAVE)]
            yes = number == 0 if word_of_row == "zero" else number < 0
            for most in (2, 3, 4):
                log = [("over", 0, 1), ("leave", 1, 3) if yes else ("leave", 2, 2)]
                if yes and most == 2:
                    log = [("over", 0, 1), ("short", 0, 1)]
                self.assert_ride(program, lane, [number], most, [True], log)

    def test_edges_of_no_rows_where_no_row_is_left(self):
        program = [(0, 1, [("put", 0, 6), ("jump", 2), ("tell", 0), ("back", 0)])]
        start = (1, [(0, 0, (A,))], ("go", (2, (num(6),), 1)))
        lane = [start, (1, [(0, 2, (A,))], ("go", (0, (A,), 2))), (1, [(0, 2, (A,))], ("hold", 0, 6, (0, (), 3))),
                (0, [(0, 2, (num(6),))], ("go", (0, (num(6),), 4))), (1, [(0, 2, (A,))], ("tell", (0, (A,), 5))),
                (1, [(0, 3, (A,))], LEAVE)]
        self.assert_ride(program, lane, [], 2, [True], [("over", 0, 0), ("short", 4, 2)])
        self.assert_ride(program, lane, [], 3, [True], [("over", 0, 0), ("leave", 5, 3)])
        # Chances at each stand, also where all rows allowed are gone.
        for many, k in ((1, 1), (2, 2), (3, 3), (4, 4)):
            self.assert_ride(program, lane, [], 2, [True] + [False] * many + [True] * 9,
                             [("over", 0, 0), ("away", k, 2)])
        lane[4] = (1, [(0, 2, (A,))], LEAVE)
        self.assert_ride(program, lane[:5], [], 2, [True], [("over", 0, 0), ("leave", 4, 2)])
        lane[2] = (1, [(0, 2, (A,))], ("hold", 0, 7, (0, (), 3)))
        lane[3] = (0, [(0, 2, (num(7),))], LEAVE)
        self.assert_ride(program, lane[:5], [], 2, [True], [("over", 0, 0), ("fall", 2, 2)])

    def test_short_stands_behind_a_holds_look(self):
        program = [(0, 1, [("take", 0), ("jump", 2), ("jump", 3), ("back", 0)])]
        lane = [(1, [(0, 1, (A,))], ("hold", 0, 4, (2, (A,), 1))), (1, [(0, 3, (A,))], LEAVE)]
        for most, name in ((2, "short"), (3, None), (4, None)):
            log = [("over", 0, 1), (name, 0, 1) if name else ("leave", 1, 3)]
            self.assert_ride(program, lane, [4], most, [True], log)
            self.assert_ride(program, lane, [5], most, [True], [("over", 0, 1), ("fall", 0, 1)])
            self.assert_ride(program, lane, [-4], most, [True], [("over", 0, 1), ("fall", 0, 1)])

    def test_takes_with_no_number_left(self):
        program = [(0, 2, [("take", 0), ("plus", 1, 1, 0), ("jump", 0)])]
        lane = [(2, [(0, 0, (A, B))], ("take", (2, (C, (0, ((1, 1), (1, 2)))), 0)))]
        for many in range(5):
            inputs = [7, -2, 0, 9, 1][:many]
            self.assert_ride(program, lane, inputs, 100, [True], [("over", 0, 0), ("short", 0, 3 * many)])
            hand = self.assert_ride(program, lane, inputs, 3 * many, [True] if many else [],
                                    [("over", 0, 0), ("short", 0, 3 * many)] if many else [])
            self.assertIsNone(hand.end)
            self.assert_ride(program, lane, inputs, 3 * many + 1, [True], [("over", 0, 0), ("short", 0, 3 * many)])
        # Rows and numbers both lack.
        self.assert_ride(program, lane, [], 1, [True], [("over", 0, 0), ("short", 0, 0)])
        # Led over at the door again, and short again.
        self.assert_ride(program, lane, [5], 100, [True, False, False, True, False, True],
                         [("over", 0, 0), ("short", 0, 3), ("over", 0, 3), ("short", 0, 3), ("over", 0, 3),
                          ("short", 0, 3)])

    def test_the_word_of_a_take_stands_behind_the_others(self):
        program = [(0, 3, [("take", 1), ("tell", 1), ("tell", 0), ("tell", 2), ("jump", 0)])]
        lane = [(3, [(0, 0, (A, B, C))], ("take", (0, (B, word(3), A, num(9), C), 1))),
                (5, [(0, 1, (C, B, word(4)))], ("tell", (0, (C, B, word(4)), 2))),
                (3, [(0, 2, (A, B, C))], ("tell", (0, (A, B, C), 3))),
                (3, [(0, 3, (A, B, C))], ("tell", (1, (A, B, C), 0)))]
        self.assert_ride(program, lane, [4, 5, 6], 100, [True], [("over", 0, 0), ("short", 0, 15)])
        self.assertEqual(ride(program, lane, [4, 5, 6], 100, [True])[1], [4, 0, 0, 5, 0, 0, 6, 0, 0])

    def test_holds_that_fall_and_that_do_not(self):
        for n in (0, 1, -1, 10 ** 60 - 1, 1 - 10 ** 60):
            for number in (0, 1, -1, 10 ** 60 - 1, 1 - 10 ** 60, 10 ** 60 - 2):
                program = [(0, 1, [("take", 0), ("tell", 0), ("back", 0)])]
                lane = [(1, [(0, 1, (A,))], ("hold", 0, n, (0, (), 1))),
                        (0, [(0, 1, (num(n),))], ("tell", (0, (), 2))), (0, [(0, 2, (num(n),))], LEAVE)]
                log = [("over", 0, 1), ("leave", 2, 2) if n == number else ("fall", 0, 1)]
                self.assert_ride(program, lane, [number], 9, [True], log)

    def test_words_of_three_hundred_figures(self):
        # A word that no paper names grows; a hold looks at it.
        lane = [(2, [(0, 0, (A,))], ("go", (1, (A, num(GREATEST)), 1))),
                (2, [(0, 0, (A,))], ("hold", 1, GREATEST, (1, (A, (0, ((GREATEST, 1),))), 2))),
                (2, [(0, 0, (A,))], ("go", (1, (A, (-GREATEST * GREATEST, ((1, 1),))), 3))),
                (2, [(0, 0, (A,))], ("hold", 1, 0, (1, (A, B), 4))),
                (2, [(0, 0, (A,))], LEAVE)]
        door = (1, [(0, 0, (A,))], ("go", (1, (A, num(5)), 1)))
        self.assert_ride(LOOP, [door] + [(m, p, self.shifted(d)) for m, p, d in lane], [], 9, [True],
                         [("over", 0, 0), ("leave", 5, 5)])

    def shifted(self, deed):
        """The deed with each of its edges leading one stand further."""
        return tuple((part[0], part[1], part[2] + 1) if isinstance(part, tuple) else part for part in deed)


class Told(RideCase):
    def test_the_hand_of_a_ride(self):
        hand, log = ridden(MAIN, BASE, [3, 0, 9], 100, [True])
        self.assertEqual((hand.frames, hand.news, hand.gone, hand.left, hand.end),
                         ([[0, 7, [10, 5, 0]]], [5, 10], 15, [9], ("back", 10)))
        hand, log = ridden(MAIN, BASE, [3, 0, 9], 7, [True])
        self.assertEqual((hand.frames, hand.news, hand.gone, hand.left, hand.end),
                         ([[0, 5, [5, 5, 3]], [1, 1, [2, 3]]], [5], 7, [0, 9], None))
        self.assertEqual(log, [("over", 0, 0), ("short", 6, 7)])
        self.assertEqual(hand.program, MAIN)

    def test_the_four_ends(self):
        ends = [ride(MAIN, BASE, [3, 0], 100, [True])[0], ride(MAIN, BASE, [3], 100, [True])[0],
                ride(MAIN, BASE, [3], 9, [True])[0], ride(DEEP, ChancesBeforeRows.FOUR, [25], 300, [True] * 5)[0]]
        self.assertEqual(ends, [("back", 10), ("dry", 0, 2), ("far", 0, 6), ("deep", 1, 3)])
        self.assertEqual([type(part) for end in ends for part in end].count(int), 7)

    def test_a_hand_that_went_too_far_goes_on(self):
        hand, log = ridden(MAIN, BASE, [3, 0], 7, [True])
        while hand.end is None:
            hand.go()
        self.assertEqual((hand.end, hand.news, hand.gone), run(MAIN, [3, 0], 100))

    def test_asked_twice(self):
        when = [True, False, False, True, True]
        self.assertEqual(ride(MAIN, BASE, [3, 0], 100, when), ride(MAIN, BASE, [3, 0], 100, when))
        first = ride(MAIN, BASE, [3, 0], 100, when)
        first[1].append(1)
        first[3].clear()
        self.assertNotEqual(first, ride(MAIN, BASE, [3, 0], 100, when))
        hand, log = ridden(MAIN, BASE, [3, 0], 7, when)
        hand.frames[0][2][0] = 99
        hand.left.append(4)
        hand.news.append(4)
        log.append(4)
        other, other_log = ridden(MAIN, BASE, [3, 0], 7, when)
        self.assertEqual((other.frames[0][2][0], other.left, other.news), (5, [0], [5]))
        self.assertEqual(other_log, log[:-1])


if __name__ == "__main__":
    unittest.main()
