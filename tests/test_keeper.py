"""Points 2, 3, 26 and 27: runs with a keeper."""

import copy
import random
import unittest

from midlanes.hand import run
from midlanes.judge import fault
from midlanes.keeper import kept_run
from midlanes.maker import made
from midlanes.rows import formed

from helpers import LOOP, MAIN, Rider, lists_in, random_program, random_row

# Takes how often and what, and tells the sum behind a round of four rows.
SUM = [(0, 4, [("take", 0), ("take", 1), ("put", 3, 1), ("plus", 2, 2, 1), ("less", 0, 0, 3), ("zero", 0, 7),
               ("jump", 3), ("tell", 2), ("back", 2)])]


class SecondKeeper(Rider):
    """Keeps a run as the package's keeper does, but told from the plain run; the lanes are the maker's."""

    def __init__(self, program, inputs, most, heat, falls):
        Rider.__init__(self, program, [], inputs, most, [])
        self.heat = heat
        self.falls = falls
        self.counted = {}
        self.lanes = []
        self.knowns = []
        self.fallen = []
        self.waits_for_row = None

    def told(self):
        return Rider.told(self) + (self.lanes,)

    def goes_on(self):
        f, at, boxes = self.frames()[-1]
        if self.gone == self.most:
            return False
        numbers = [j for j, lane in enumerate(self.lanes) if lane[:2] == (f, at) and self.fallen[j] < self.falls]
        if numbers and numbers != [self.waits_for_row] and len(self.frames()) <= 17:
            self.goes_over(numbers[0])
            return True
        if self.gone == len(self.states) - 1:
            return False
        word = self.program[f][2][at][0]
        self.gone += 1
        self.waits_for_row = None
        if word in ("jump", "zero", "below") and self.frames()[-1][1] <= at:
            self.counts((f, self.frames()[-1][1]), self.frames()[-1][2])
        return True

    def counts(self, place, boxes):
        if place in [lane[:2] for lane in self.lanes]:
            return
        self.counted.setdefault(place, []).append(boxes)
        counts = self.counted[place]
        if len(counts) >= self.heat and len(self.frames()) <= 17 and self.gone < self.most:
            known = [(p, boxes[p]) for p in range(len(boxes)) if counts[-2][p] == boxes[p]]
            self.log.append(("made", len(self.lanes), self.gone))
            self.knowns.append(known)
            self.lanes.append((*place, made(self.program, *place, known, 20)))
            self.fallen.append(0)

    def goes_over(self, j):
        start = self.gone
        self.lane = self.lanes[j][2]
        self.log.append(("over", j, self.gone))
        self.goes_lane(0, self.frames()[-1][2], len(self.frames()) - 1)
        name = self.log.pop()[0]
        self.log.append((name, j, self.gone))
        if self.gone == start:
            self.waits_for_row = j
        if name == "fall":
            self.fallen[j] += 1
            if self.fallen[j] == self.falls:
                self.log.append(("thrown", j, self.gone))


class KeeperCase(unittest.TestCase):
    def assert_kept(self, program, inputs, most, heat, falls):
        """Keeps a run, and holds all that is told against the plain run and the second keeper; tells log and lanes."""
        self.assertTrue(formed(program))
        before = copy.deepcopy((program, inputs))
        told = kept_run(program, inputs, most, heat, falls)
        self.assertEqual((program, inputs), before)
        self.assertEqual([type(part) for part in told], [tuple, list, int, list, list])
        self.assertIs(type(told), tuple)
        self.assertEqual(told[:3], run(program, inputs, most))
        second = SecondKeeper(program, inputs, most, heat, falls)
        self.assertEqual(told, second.told(), f"{program} {inputs} {most} {heat} {falls}")
        for (f, at, lane), known in zip(told[4], second.knowns):
            self.assertIsNone(fault(program, lane))
            self.assertEqual(lane[0][1][0][:2], (f, at))
            self.assertEqual([stand[2][2] for stand in lane if stand[2][0] == "hold"], [n for p, n in known])
        for one in told[3]:
            self.assertEqual((type(one), *[type(part) for part in one]), (tuple, str, int, int))
        lists = lists_in(told)
        self.assertEqual(len({id(one) for one in lists}), len(lists))
        return told[3], told[4]

    def assert_log(self, program, inputs, most, heat, falls, log, places):
        told, lanes = self.assert_kept(program, inputs, most, heat, falls)
        self.assertEqual(told, log)
        self.assertEqual([lane[:2] for lane in lanes], places)
        return lanes


class Heat(KeeperCase):
    def test_at_the_count_that_is_heat(self):
        for heat in range(2, 12):
            # The jump is gone behind 7 rows, 11, 15 and so on, nine times.
            gone = 3 + 4 * heat
            log = [("made", 0, gone), ("over", 0, gone), ("leave", 0, 43)] if heat <= 9 else []
            lanes = self.assert_log(SUM, [10, 7], 400, heat, 1, log, [(0, 3)] if log else [])
            if lanes:
                self.assertEqual(lanes[0][2], made(SUM, 0, 3, [(1, 7), (3, 1)], 20))

    def test_great_bounds(self):
        for heat in (2, 9, 10, 100, 10 ** 60):
            for falls in (1, 2, 10 ** 60):
                self.assert_kept(SUM, [10, 7], 400, heat, falls)
        self.assert_log(SUM, [10, 7], 400, 10 ** 60, 1, [], [])

    def test_rows_left(self):
        log = [("made", 0, 11), ("over", 0, 11)]
        for most in range(60):
            told, lanes = self.assert_kept(SUM, [10, 7], most, 2, 1)
            self.assertEqual(told[:2], log if most > 11 else [])
        self.assert_log(LOOP, [], 3, 3, 1, [], [])
        self.assert_log(LOOP, [], 4, 3, 1, [("made", 0, 3), ("over", 0, 3), ("short", 0, 4)], [(0, 0)])
        self.assert_log(LOOP, [], 400, 3, 1, [("made", 0, 3), ("over", 0, 3), ("short", 0, 400)], [(0, 0)])

    def test_the_boxes_that_have_the_number_of_the_count_ahead(self):
        # Box 0 gets the numbers taken, box 1 how many there were, box 2 stays, box 3 comes and goes.
        program = [(0, 4, [("take", 0), ("put", 3, 1), ("plus", 1, 1, 3), ("put", 3, 0), ("jump", 0)])]
        for inputs, known in (([5, 6, 7, 7], [(2, 0), (3, 0)]), ([5, 6, 6, 7], [(0, 6), (2, 0), (3, 0)]),
                              ([6, 5, 6, 6], [(2, 0), (3, 0)]), ([0, 0, 0, 9], [(0, 0), (2, 0), (3, 0)])):
            lanes = self.assert_kept(program, inputs, 15 + 1, 3, 1)[1]
            self.assertEqual(lanes, [(0, 0, made(program, 0, 0, known, 20))])
        inputs = [10 ** 60 - 1] * 3
        lanes = self.assert_kept(program, inputs, 100, 2, 1)[1]
        self.assertEqual(lanes, [(0, 0, made(program, 0, 0, [(0, 10 ** 60 - 1), (2, 0), (3, 0)], 20))])

    def test_two_places(self):
        program = [(0, 3, [("take", 0), ("put", 1, 3), ("less", 1, 1, 2), ("put", 2, 1), ("zero", 1, 6), ("jump", 2),
                           ("tell", 0), ("jump", 0)])]
        for heat in (2, 3, 4, 6):
            for falls in (1, 2, 9):
                log, lanes = self.assert_kept(program, [1, 1, 2, 2, 3, 0, 4, 4, 4, 1], 300, heat, falls)
                self.assertEqual([lane[:2] for lane in lanes][:1], [(0, 2)])
        # An outer and an inner round that are both made: the lane of the inner one is left by a hold of its own.
        log, lanes = self.assert_kept(TWO_DEFS, [3] * 9, 400, 2, 9)
        self.assertEqual([lane[:2] for lane in lanes], [(1, 0), (0, 0)])
        self.assertEqual([one[1] for one in log if one[0] == "made"], [0, 1])


# Def 1 goes to its row 0 again once in each call.
AGAIN = (1, 2, [("zero", 1, 2), ("back", 0), ("put", 1, 1), ("jump", 0)])
TWO_DEFS = [(0, 2, [("take", 0), ("call", 1, 1, (0,)), ("tell", 1), ("jump", 0)]), AGAIN]


def calls(many):
    """A program that takes a number and calls the def with it, so many times, without a jump of its own."""
    return [(0, 2, [("take", 0), ("call", 1, 1, (0,))] * many + [("back", 1)]), AGAIN]


class Falls(KeeperCase):
    def test_thrown_behind_so_many_falls(self):
        log = [("made", 0, 12), ("over", 0, 12), ("leave", 0, 13)]
        for falls in range(1, 7):
            expected = list(log)
            # Each call comes to the place with another number in box 1 first, and then with the known one.
            for call in range(2, 6):
                gone = 16 + 7 * (call - 2)
                if call - 2 < falls:
                    expected += [("over", 0, gone), ("fall", 0, gone)]
                if call - 2 < falls - 1:
                    expected += [("over", 0, gone + 3), ("leave", 0, gone + 4)]
                if call - 2 == falls - 1:
                    expected.append(("thrown", 0, gone))
            self.assert_log(calls(6), [5] * 6, 400, 2, falls, expected, [(1, 0)])

    def test_other_numbers(self):
        # The known number of box 0 is another one from the third call on: two falls a call.
        log = [("made", 0, 12), ("over", 0, 12), ("leave", 0, 13), ("over", 0, 16), ("fall", 0, 16),
               ("over", 0, 19), ("fall", 0, 19), ("over", 0, 23), ("fall", 0, 23), ("over", 0, 26), ("fall", 0, 26)]
        self.assert_log(calls(4), [5, 5, 6, 6], 400, 2, 9, log, [(1, 0)])
        self.assert_log(calls(4), [5, 5, 6, 6], 400, 2, 4, log + [("thrown", 0, 26)], [(1, 0)])
        self.assert_log(calls(4), [5, 5, 6, 6], 400, 2, 3, log[:9] + [("thrown", 0, 23)], [(1, 0)])
        self.assert_log(calls(4), [5, 5, 6, 6], 400, 2, 2, log[:7] + [("thrown", 0, 19)], [(1, 0)])
        self.assert_log(calls(4), [5, 5, 6, 6], 400, 2, 1, log[:5] + [("thrown", 0, 16)], [(1, 0)])

    def test_never_made_again(self):
        for heat in (2, 3, 5):
            log, lanes = self.assert_kept(calls(14), [5] * 14, 400, heat, 1)
            self.assertEqual([lane[:2] for lane in lanes], [(1, 0)])
            self.assertEqual([one[0] for one in log], ["made", "over", "leave", "over", "fall", "thrown"])

    def test_where_the_place_is_come_to_by_a_call(self):
        log, lanes = self.assert_kept(calls(4), [5] * 4, 400, 2, 9)
        self.assertIn(("over", 0, 16), log)
        # Behind 16 rows the run has just called: nothing is counted there, but the run is led over.
        self.assertEqual(SecondKeeper(calls(4), [5] * 4, 400, 2, 9).states[16][0][-1], (1, 0, (5, 0)))


class Counted(KeeperCase):
    def rounds(self, last, most=60, heat=2):
        """The lanes of a run with rows that go on at row 0 by such a last row."""
        program = [(0, 3, [("put", 1, -1), ("plus", 2, 2, 1)] + last)]
        return [lane[:2] for lane in self.assert_kept(program, [], most, heat, 3)[1]]

    def test_what_goes_back(self):
        end = [("back", 2)]
        self.assertEqual(self.rounds([("jump", 0)]), [(0, 0)])
        self.assertEqual(self.rounds([("jump", 1)]), [(0, 1)])
        self.assertEqual(self.rounds([("zero", 0, 0)] + end), [(0, 0)])
        self.assertEqual(self.rounds([("below", 1, 1)] + end), [(0, 1)])

    def test_what_stays(self):
        end = [("back", 2)]
        self.assertEqual(self.rounds([("jump", 2)]), [(0, 2)])
        self.assertEqual(self.rounds([("zero", 0, 2)] + end), [(0, 2)])
        self.assertEqual(self.rounds([("below", 1, 2)] + end), [(0, 2)])

    def test_what_does_not_jump(self):
        end = [("back", 2)]
        for row in (("zero", 1, 0), ("zero", 1, 2), ("below", 0, 0), ("below", 0, 2), ("below", 0, 1)):
            self.assertEqual(self.rounds([row] + end), [])
        # The tests are gone plainly again and again, and only the jump behind them is counted.
        self.assertEqual(self.rounds([("zero", 1, 1), ("below", 0, 2), ("jump", 0)]), [(0, 0)])
        self.assertEqual(self.rounds([("zero", 1, 1), ("below", 0, 2), ("jump", 0)], 60, 12), [])

    def test_what_goes_forward(self):
        program = [(0, 2, [("jump", 1), ("zero", 0, 2), ("put", 0, -1), ("below", 0, 5), ("back", 1), ("tell", 0),
                           ("put", 0, 0), ("jump", 0)])]
        for heat in (2, 3):
            lanes = self.assert_kept(program, [], 100, heat, 2)[1]
            self.assertEqual([lane[:2] for lane in lanes], [(0, 0)])
        body = program[0][2][:7] * 3
        forward = [self.moved(row, k // 7 * 7) for k, row in enumerate(body)] + [("back", 0)]
        self.assertEqual(self.assert_kept([(0, 2, forward)], [], 100, 2, 2), ([], []))

    def moved(self, row, ahead):
        return row[:-1] + (row[-1] + ahead,) if row[0] in ("jump", "zero", "below") else row

    def test_calls_and_backs(self):
        nest = [(0, 1, [("call", 0, 0, ()), ("back", 0)])]
        self.assertEqual(self.assert_kept(nest, [], 100, 2, 1), ([], []))
        back = [(0, 1, [("call", 0, 1, ())] * 29 + [("back", 0)]), (0, 1, [("back", 0)])]
        self.assertEqual(self.assert_kept(back, [], 100, 2, 1), ([], []))

    def test_places_are_counted_each_by_itself(self):
        program = [(0, 1, [("jump", 2), ("jump", 5), ("jump", 1), ("jump", 6), ("jump", 7), ("jump", 3), ("jump", 4),
                           ("back", 0)])]
        self.assertEqual(self.assert_kept(program, [], 100, 2, 1), ([], []))
        # Rows of the same number in two defs are two places.
        program = [(0, 1, [("jump", 2), ("call", 0, 1, ()), ("zero", 0, 1), ("back", 0)]),
                   (0, 1, [("jump", 2), ("put", 0, 1), ("zero", 0, 1), ("back", 0)])]
        self.assertEqual(self.assert_kept(program, [], 100, 2, 1), ([], []))

    def test_jumps_in_a_lane_are_not_counted(self):
        # The lane for row 1 goes the outer round, too, so that row 0 is never counted behind it.
        program = [(0, 2, [("put", 1, 2), ("less", 1, 1, 0), ("take", 0), ("zero", 0, 5), ("jump", 1), ("jump", 0)])]
        inputs = [1, 1] + [0] * 20
        self.assert_log(program, inputs, 90, 2, 1, [("made", 0, 9), ("over", 0, 9), ("short", 0, 90)], [(0, 1)])


class RowFirst(KeeperCase):
    # Row 1 of def 1, a back, is come to by a jump from behind in each call.
    BACK = (1, 1, [("jump", 2), ("back", 0), ("jump", 1)])

    def test_left_without_going_any_row(self):
        program = [(0, 2, [("take", 0), ("call", 1, 1, (0,))] * 4 + [("back", 1)]), self.BACK]
        log = [("made", 0, 9), ("over", 0, 9), ("leave", 0, 9)]
        self.assert_log(program, [5, 5, 5, 5], 400, 2, 1,
                        log + [("over", 0, 14), ("leave", 0, 14), ("over", 0, 19), ("leave", 0, 19)], [(1, 1)])
        self.assert_log(program, [5, 5, 6, 5], 400, 2, 2,
                        log + [("over", 0, 14), ("fall", 0, 14), ("over", 0, 19), ("leave", 0, 19)], [(1, 1)])
        self.assert_log(program, [5, 5, 6, 5], 400, 2, 1,
                        log + [("over", 0, 14), ("fall", 0, 14), ("thrown", 0, 14)], [(1, 1)])

    def test_short_without_going_any_row(self):
        # Each round takes a number; where none is left the plain row ends the run.
        program = [(0, 1, [("take", 0), ("jump", 0)])]
        self.assert_log(program, [1, 2], 400, 2, 1, [("made", 0, 4), ("over", 0, 4), ("short", 0, 4)], [(0, 0)])
        self.assert_log(program, [1, 2, 3], 400, 2, 1, [("made", 0, 4), ("over", 0, 4), ("short", 0, 6),
                                                       ("over", 0, 6), ("short", 0, 6)], [(0, 0)])

    def test_short_by_rows(self):
        # The lane goes two rows at once; one row too few is left, and the plain row is gone first.
        program = [(0, 2, [("plus", 0, 0, 1), ("put", 1, 1), ("jump", 0)])]
        for most in range(6, 30):
            log, lanes = self.assert_kept(program, [], most, 2, 1)
            self.assertEqual(log[:2], [("made", 0, 6), ("over", 0, 6)] if most > 6 else [])
            overs = [one[2] for one in log if one[0] == "over"]
            self.assertEqual(overs, sorted(overs))

    def test_over_again_at_the_next_row(self):
        # The plain row that is gone first leads to the place itself again, and the run is led over again.
        program = [(0, 1, [("take", 0), ("call", 0, 1, (0,)), ("jump", 0)]),
                   (1, 1, [("times", 0, 0, 1), ("below", 0, 1), ("back", 0)])]
        for inputs in ([-1], [-1, -1], [1, -1], [0, 1, 2, -1]):
            for most in (10, 11, 12, 13, 14, 60):
                for heat in (2, 3):
                    self.assert_kept(program, inputs, most, heat, 1)
        # Falls at each row of a round of one row: the known number is another one in the second call.
        program = [(0, 2, [("take", 0), ("call", 1, 1, (0,)), ("jump", 0)]),
                   (1, 2, [("below", 0, 3), ("zero", 1, 4), ("back", 0), ("jump", 0), ("put", 1, 1), ("jump", 0)])]
        for falls in (1, 2, 3, 50):
            for inputs in ([1, 1, 2, -1], [1, 2, 2, 3, -1], [2, 2, -1]):
                self.assert_kept(program, inputs, 100, 2, falls)


class Frames(KeeperCase):
    # Def 1 goes back to its row 1 once in each call, and calls itself so often as its box tells.
    DOWN = (1, 2, [("jump", 2), ("jump", 3), ("jump", 1), ("zero", 0, 7), ("put", 1, 1), ("less", 0, 0, 1),
                   ("call", 0, 1, (0,)), ("back", 0)])

    def down(self, many):
        return [(0, 1, [("take", 0), ("call", 0, 1, (0,))] * many + [("back", 0)]), self.DOWN]

    def test_made_with_seventeen_frames_and_not_with_eighteen(self):
        # The first count is with two frames, each other one with one more.
        for heat in range(2, 20):
            log, lanes = self.assert_kept(self.down(1), [18], 400, heat, 99)
            gone = 4 + 7 * (heat - 1)
            self.assertEqual(log[:2], [("made", 0, gone), ("over", 0, gone)] if heat <= 16 else [])

    def test_made_at_a_later_count(self):
        # With the heat met at eighteen frames or more the next count with fewer makes the lane: in the second call,
        # and the count ahead was that of the youngest frame of the first.
        for heat in (17, 18, 19, 20):
            for inputs, known in (([18, 5], [(1, 0)]), ([18, 0], [(0, 0), (1, 0)])):
                log, lanes = self.assert_kept(self.down(2), inputs, 400, heat, 99)
                self.assertEqual(lanes, [(1, 1, made(self.down(2), 1, 1, known, 20))])
                self.assertEqual([one[0] for one in log[:2]], ["made", "over"])

    def test_over_with_seventeen_frames_and_not_with_eighteen(self):
        for inputs in ([2, 18], [2, 25], [3, 15], [3, 16], [3, 17], [0, 0, 18]):
            program = self.down(len(inputs))
            states = SecondKeeper(program, inputs, 400, 2, 99).states
            log = self.assert_kept(program, inputs, 400, 2, 99)[0]
            frames = [len(states[gone][0]) for name, j, gone in log if name == "over"]
            self.assertLessEqual(max(frames), 17)
            self.assertEqual(max(len(state[0]) for state in states), min(max(inputs) + 2, 20))
        self.assertEqual(self.assert_kept(self.down(2), [2, 25], 400, 2, 99)[1][0][:2], (1, 1))


class Any(KeeperCase):
    def calling_program(self, rng):
        """A program that calls its second def with numbers taken; this one comes to its row 1 from behind, and goes on
        by any rows."""
        boxes = rng.randint(1, 3)
        rows = [("jump", 2), ("jump", 3), ("jump", 1)]
        rows += [random_row(rng, boxes, 8, [0, 1]) for row in range(rng.randint(1, 5))] + [("back", 0)] * 4
        return [(0, 2, [("take", 0), ("call", 1, 1, (0,))] * 10 + [("jump", 0)]), (1, boxes, rows)]

    def test_any_programs(self):
        rng = random.Random(51)
        seen = {}
        for time in range(1200):
            program = random_program(rng) if time % 2 else self.calling_program(rng)
            for trial in range(2):
                inputs = [rng.choice([0, 1, rng.randint(-3, 3)]) for k in range(rng.choice([0, 3, 10, 60, 400]))]
                most = rng.choice([0, 1, 5, rng.randint(0, 100), 100, 400])
                heat = rng.choice([2, 2, 2, 3, 4, 7, 20, 100])
                log, lanes = self.assert_kept(program, inputs, most, heat, rng.choice([1, 1, 2, 3, 50]))
                for one in log:
                    seen[one[0]] = seen.get(one[0], 0) + 1
        self.assertEqual(set(seen), {"made", "over", "fall", "leave", "short", "thrown"})
        self.assertGreater(min(seen.values()), 30, seen)

    def test_rounds_in_calls(self):
        # The rounds of def 1 are as many as it is told; what it is told changes now and then.
        inner = (2, 4, [("copy", 2, 0), ("plus", 3, 3, 1), ("less", 2, 2, 3), ("below", 2, 5), ("jump", 1), ("tell", 3),
                        ("back", 3)])
        program = [(0, 4, [("take", 0), ("zero", 0, 5), ("take", 1), ("call", 2, 1, (0, 1)), ("jump", 0), ("back", 2)]),
                   inner]
        rng = random.Random(52)
        for time in range(150):
            inputs = []
            for call in range(rng.randint(1, 12)):
                inputs += [rng.choice([30, 30, 7, 12]), rng.choice([1, 1, 1, 2, 3])]
            inputs += rng.choice([[], [0]])
            most = rng.choice([50, 200, 400])
            for heat in (2, 3, 6):
                self.assert_kept(program, inputs, most, heat, rng.choice([1, 2, 4]))

    def test_other_programs(self):
        for most in (0, 1, 10, 100, 400):
            for heat in (2, 3, 50):
                for falls in (1, 2, 50):
                    for inputs in ([], [0], [3, 3, 3, 3, 0], [4, 5, 6, 7, 8, 9] * 10):
                        self.assert_kept(MAIN, inputs, most, heat, falls)
                        self.assert_kept(TWO_DEFS, inputs, most, heat, falls)


class Twice(KeeperCase):
    def test_asked_twice(self):
        first = kept_run(TWO_DEFS, [3] * 9, 400, 2, 2)
        again = kept_run(TWO_DEFS, [3] * 9, 400, 2, 2)
        self.assertEqual(first, again)
        self.assertFalse({id(one) for one in lists_in(first)} & {id(one) for one in lists_in(again)})
        first[4][0][2].clear()
        first[3].clear()
        first[1].clear()
        self.assertEqual(kept_run(TWO_DEFS, [3] * 9, 400, 2, 2), again)


if __name__ == "__main__":
    unittest.main()
